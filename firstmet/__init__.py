"""Firstmet: loops over tables, the lists they give, and whether two programs give the same list for all tables."""
