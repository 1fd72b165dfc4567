"""Whether two programs give equal lists on every store."""

from firstmet.checks import is_tuple
from firstmet.errors import TooLong
from firstmet.running import run
from firstmet.samekeys import check_pair
from firstmet.sameorder import is_order_paper, order_paper, parting_order
from firstmet.samesums import is_sums_paper, parting_sums, sums_paper
from firstmet.tables import Store


def alike(one, other):
    """Whether run gives equal lists on every store."""
    return alike_paper(one, other) is not None


def alike_paper(one, other):
    """The tuple of an order paper and a sums paper, None if one of them is missing."""
    paper = (order_paper(one, other), sums_paper(one, other))
    return None if None in paper else paper


def is_alike_paper(one, other, thing):
    """Whether the thing, which may be anything, is an alike paper of the two programs."""
    order, sums = thing if is_tuple(thing, 2) else (None, None)
    # Both are asked whatever the one says: the second one may have an error to tell, too.
    right = [is_order_paper(one, other, order), is_sums_paper(one, other, sums)]
    return all(right)


def parting(one, other):
    """A store on which the lists differ, None if there is none."""
    store = parting_order(one, other)
    # Both are asked whatever the one says: the second one may have an error to tell, too.
    another = parting_sums(one, other)
    return another if store is None else store


def is_parting(one, other, thing):
    """Whether the thing, which may be anything, is a store of their shape on which the lists of the programs differ."""
    check_pair(one, other)
    if not isinstance(thing, Store) or thing.shape != one.shape:
        return False
    try:
        return run(one, thing) != run(other, thing)
    except TooLong:
        return False
