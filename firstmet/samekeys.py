"""Whether two programs give the same keys on every store."""

from firstmet.checks import is_integer, is_tuple
from firstmet.errors import BadPair
from firstmet.nests import check_program, nests_of
from firstmet.patterns import is_map, is_unknown, map_between, unknowns_of
from firstmet.tables import Store


def check_pair(one, other):
    """Raise an error if these are no two programs that can be compared."""
    check_program(one)
    check_program(other)
    if one.shape != other.shape or answer_widths(one) != answer_widths(other):
        raise BadPair(other)


def answer_widths(program):
    """How many keys and how many sums the answer of the program has."""
    _, keys, sums = program.blocks[-1]
    return (len(keys), len(sums))


def nests_of_pair(one, other):
    """The nests of the one and of the other program, once it is known that they can be compared."""
    check_pair(one, other)
    return (nests_of(one), nests_of(other))


def same_keys(one, other):
    """Whether on every store both answers have the same keys."""
    return keys_paper(one, other) is not None


def keys_paper(one, other):
    """For each nest of both a map from a nest of the other program into it, None if one has none."""
    nests, others = nests_of_pair(one, other)
    first = maps_into(nests, others)
    second = maps_into(others, nests)
    return None if None in first or None in second else (first, second)


def maps_into(nests, others):
    """For each of the nests the index of one of the others and a map from it, None for one into which there is none."""
    return tuple([map_into(nest, others) for nest in nests])


def map_into(nest, others):
    """The index of the first of the others from which there is a map into the nest, and such a map; None if none."""
    rows, group, _ = nest
    for at, (inner, aim, _) in enumerate(others):
        places = map_between(inner, aim, rows, group)
        if places is not None:
            return (at, places)
    return None


def is_keys_paper(one, other, thing):
    """Whether the thing, which may be anything, is a keys paper of the two programs."""
    nests, others = nests_of_pair(one, other)
    return is_tuple(thing, 2) and are_maps_into(nests, others, thing[0]) and are_maps_into(others, nests, thing[1])


def are_maps_into(nests, others, thing):
    """Whether the thing is a tuple of an index of the others and a map from it for each of the nests."""
    if not is_tuple(thing, len(nests)):
        return False
    return all([is_map_into(nest, others, part) for nest, part in zip(nests, thing)])


def is_map_into(nest, others, thing):
    """Whether the thing is a tuple of an index of the others and a map from there into the nest."""
    if not is_tuple(thing, 2) or not is_integer(thing[0]) or not 0 <= thing[0] < len(others):
        return False
    rows, group, _ = nest
    inner, aim, _ = others[thing[0]]
    return is_map(inner, aim, rows, group, thing[1])


def parting_keys(one, other):
    """A store on which the sets of keys differ, None if there is none."""
    nests, others = nests_of_pair(one, other)
    for nest in alone(nests, others) + alone(others, nests):
        rows, _, _ = nest
        unknowns = unknowns_of(rows)
        images = dict(zip(unknowns, unlike_values(one, other, len(unknowns))))
        return store_of(one.shape, frozen(rows, images))
    return None


def alone(nests, others):
    """The list of those nests into which there is no map from any of the others."""
    return [nest for nest in nests if map_into(nest, others) is None]


def unlike_values(one, other, many):
    """The list of the so many least values above 0 that stand nowhere in the two programs, ascending."""
    used = {value: True for value in values_in(one.body) + values_in(other.body)}
    # Of so many values at least as many as are asked for are left.
    unlike = [value for value in range(1, many + len(used) + 1) if value not in used]
    return unlike[:many]


def values_in(thing):
    """The list of all integers in tuples within tuples, with those that are no values of a row but multiples."""
    if isinstance(thing, tuple):
        return [value for part in thing for value in values_in(part)]
    return [thing] if is_integer(thing) else []


def frozen(rows, images):
    """The list of the rows with values in the place of the unknowns."""
    return [(table, tuple([images[symbol] if is_unknown(symbol) else symbol for symbol in symbols]))
            for table, symbols in rows]


def store_of(shape, rows):
    """The store that has these rows, tuples of a table and a row, each once, in order."""
    found = {table: [] for table, _ in shape.tables}
    for table, row in rows:
        if row not in found[table]:
            found[table].append(row)
    return Store(shape, found)
