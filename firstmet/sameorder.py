"""Whether two programs give the same keys in the same order on every store."""

from firstmet.checks import is_integer, is_tuple
from firstmet.errors import NotPlain
from firstmet.nests import deciding, first_not_plain, has_keys, staying_of
from firstmet.patterns import Pattern, images_of, map_between, pairing, unknowns_of
from firstmet.samekeys import frozen, is_keys_paper, keys_paper, nests_of_pair, parting_keys, store_of, unlike_values


def plain_pair(one, other):
    """The nests of the one and of the other program, once it is known that they can be asked for their order."""
    nests, others = nests_of_pair(one, other)
    if has_keys(one):
        check_plain(nests)
        check_plain(others)
    return (nests, others)


def check_plain(nests):
    """Raise NotPlain if these are no nests of a plain program."""
    at = first_not_plain(nests)
    if at is not None:
        raise NotPlain(at)


def same_order(one, other):
    """Whether on every store both answers have the same keys in the same order."""
    return order_paper(one, other) is not None


def order_paper(one, other):
    """For each nest that stays its index, that of the other program's nest and the pairing of their rows, or None.

    If there are no keys, it is a keys paper.
    """
    nests, others = plain_pair(one, other)
    if not has_keys(one):
        return keys_paper(one, other)
    mine, yours = staying_of(nests), staying_of(others)
    paper = tuple([(i, j, same_nest(nests[i], others[j])) for i, j in zip(mine, yours)])
    if len(mine) != len(yours) or not all([places is not None for _, _, places in paper]):
        return None
    return paper


def same_nest(nest, other):
    """The pairing of the rows of two plain nests that are the same but for names, what decides in them too, or None."""
    rows, group, _ = nest
    others, aim, _ = other
    places = pairing(Pattern(rows, group, {}), Pattern(others, aim, {}))
    if places is None or carried(nest, other, places) != deciding(other):
        return None
    return places


def carried(nest, other, places):
    """What decides in the plain nest, told by the rows and symbols of the other one, where the rows go to these."""
    rows, group, _ = nest
    others, aim, _ = other
    images = images_of(rows, group, others, aim, places)
    return tuple([(kind, places[at] if kind == "row" else images[at]) for kind, at in deciding(nest)])


def is_order_paper(one, other, thing):
    """Whether the thing, which may be anything, is an order paper of the two programs."""
    plain_pair(one, other)
    if not has_keys(one):
        return is_keys_paper(one, other, thing)
    # No table stands twice in a plain nest, so that there is just one pairing of rows, and just one paper.
    paper = order_paper(one, other)
    return paper is not None and is_the_same(thing, paper)


def is_the_same(thing, paper):
    """Whether the thing, which may be anything, is this paper of integers in tuples, with no list and no flag in it."""
    if not isinstance(paper, tuple):
        return is_integer(thing) and thing == paper
    return is_tuple(thing, len(paper)) and all([is_the_same(part, there) for part, there in zip(thing, paper)])


def parting_order(one, other):
    """A store on which the lists of keys differ, None if there is none."""
    nests, others = plain_pair(one, other)
    store = parting_keys(one, other)
    if store is not None or not has_keys(one):
        return store
    # As they have the same keys, as many nests stay in both, or two at the same place ahead are unlike.
    for i, j in zip(staying_of(nests), staying_of(others)):
        rows = rows_that_part(one, other, nests[i], others[j])
        if rows is not None:
            return store_of(one.shape, rows)
    return None


def rows_that_part(one, other, nest, mate):
    """Rows on which the two programs meet keys of these nests in unlike order, None if the nests are the same.

    All nests that stay ahead of them in the two programs are the same.
    """
    rows, group, _ = nest
    others, aim, _ = mate
    there = map_between(rows, group, others, aim)
    back = map_between(others, aim, rows, group)
    if there is None:
        # The one program meets the key of the nest in it, that of the mate only later; so the mate's stands first.
        return rows_beside(one, other, others, rows)
    if back is None:
        return rows_beside(one, other, rows, others)
    if carried(mate, nest, back) == deciding(nest):
        return None
    return rows_of_copies(one, other, nest, carried(mate, nest, back))


def rows_beside(one, other, ahead, behind):
    """Both rows with values of their own, those ahead with the lesser ones and first in each table."""
    first, second = unknowns_of(ahead), unknowns_of(behind)
    values = unlike_values(one, other, len(first) + len(second))
    lesser = dict(zip(first, values))
    greater = dict(zip(second, values[len(first):]))
    return frozen(ahead, lesser) + frozen(behind, greater)


def rows_of_copies(one, other, nest, word):
    """The rows of the nest twice, so that two keys come in one order by what decides in it, in another by the word.

    What is known where the two first differ has the same values in both copies. All of the first copy comes ahead of
    the second one, but for the row or value that the word asks for at this place.
    """
    rows, _, _ = nest
    at = min([place for place, (mine, yours) in enumerate(zip(deciding(nest), word)) if mine != yours])
    unknowns = unknowns_of(rows)
    values = unlike_values(one, other, 2 * len(unknowns))
    first = dict(zip(unknowns, values))
    second = dict(zip(unknowns, values[len(unknowns):]))
    for kind, known in word[:at]:
        for symbol in unknowns_of([rows[known]]) if kind == "row" else [known]:
            second[symbol] = first[symbol]
    kind, turned = word[at]
    if kind == "value":
        first[turned], second[turned] = second[turned], first[turned]
    told = []
    for place, (row, double) in enumerate(zip(frozen(rows, first), frozen(rows, second))):
        told.extend([double, row] if kind == "row" and place == turned else [row, double])
    return told
