"""What an integer, a row, a name and a value is; each of these functions takes anything."""

LETTERS = "abcdefghijklmnopqrstuvwxyz"
LONGEST_NAME = 8
LARGEST_VALUE = 10 ** 9


def is_integer(thing):
    """Whether the thing is an integer; Python counts True and False as integers, the package does not."""
    return isinstance(thing, int) and not isinstance(thing, bool)


def is_value(thing):
    """Whether the thing is an integer that a row may hold."""
    return is_integer(thing) and -LARGEST_VALUE <= thing <= LARGEST_VALUE


def is_name(thing):
    """Whether the thing is a string of 1 to 8 letters a to z."""
    if not isinstance(thing, str) or not 1 <= len(thing) <= LONGEST_NAME:
        return False
    return all([sign in LETTERS for sign in thing])


def is_row(thing, least, most):
    """Whether the thing is a list or a tuple of so many things."""
    return isinstance(thing, (list, tuple)) and least <= len(thing) <= most


def is_tuple(thing, many):
    """Whether the thing is a tuple of just so many things."""
    return isinstance(thing, tuple) and len(thing) == many


def are_names(thing, least, most):
    """Whether the thing is a row of so many names, none twice."""
    if not is_row(thing, least, most) or not all([is_name(name) for name in thing]):
        return False
    return len(set(thing)) == len(thing)


def as_tuples(thing):
    """The same thing with all rows in it as tuples."""
    if isinstance(thing, (list, tuple)):
        return tuple([as_tuples(part) for part in thing])
    return thing
