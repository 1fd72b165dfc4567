"""Patterns: rows of symbols, their ways into a store, and how the rows of one go over into those of another one."""

from firstmet.checks import LETTERS, is_integer, is_name, is_row, is_tuple, is_value
from firstmet.errors import BadPattern, BadStore, TooLong
from firstmet.tables import Store

MOST_PATTERN_ROWS = 6
MOST_SYMBOLS = 4
LONGEST_GROUP = 3
LARGEST_POWER = 100
MOST_WAYS = 20000


class Pattern:
    """Rows of given symbols and unknowns, with a group and with powers of unknowns."""

    def __init__(self, rows, group, powers):
        if not are_pattern_rows(rows):
            raise BadPattern(0)
        names = named(rows)
        if not is_row(group, 0, LONGEST_GROUP) or not all([is_known_symbol(symbol, names) for symbol in group]):
            raise BadPattern(1)
        if not are_powers(powers, names):
            raise BadPattern(2)
        self.rows = tuple([(table, renamed(symbols, names)) for table, symbols in rows])
        self.group = renamed(group, names)
        self.powers = tuple(sorted([(names[unknown], powers[unknown]) for unknown in powers]))

    def __eq__(self, other):
        if not isinstance(other, Pattern):
            return False
        return self.rows == other.rows and self.group == other.group and self.powers == other.powers


def is_unknown(symbol):
    """Whether the symbol, or whatever else it is, is an unknown."""
    return isinstance(symbol, str)


def are_pattern_rows(thing):
    """Whether the thing is a row of so many tuples of a name and symbols."""
    return is_row(thing, 0, MOST_PATTERN_ROWS) and all([is_pattern_row(row) for row in thing])


def is_pattern_row(thing):
    """Whether the thing is a tuple of a name and a row of symbols."""
    if not is_tuple(thing, 2) or not is_name(thing[0]) or not is_row(thing[1], 1, MOST_SYMBOLS):
        return False
    return all([is_unknown(symbol) or is_value(symbol) for symbol in thing[1]])


def is_known_symbol(thing, names):
    """Whether the thing is a value, or an unknown that has a name."""
    return thing in names if is_unknown(thing) else is_value(thing)


def are_powers(thing, names):
    """Whether the thing is a dict from unknowns that have names to powers."""
    if not isinstance(thing, dict) or not all([is_unknown(unknown) and unknown in names for unknown in thing]):
        return False
    return all([is_integer(thing[unknown]) and 1 <= thing[unknown] <= LARGEST_POWER for unknown in thing])


def named(rows):
    """The dict from each unknown of the rows to its name, in the order in which they stand there first."""
    return {unknown: LETTERS[at] for at, unknown in enumerate(unknowns_of(rows))}


def unknowns_of(rows):
    """The list of the unknowns of the rows, each once, in the order in which they stand there first."""
    met = {}
    for _, symbols in rows:
        for symbol in symbols:
            if is_unknown(symbol):
                met[symbol] = True
    return list(met)


def renamed(symbols, names):
    """The symbols with the names of the unknowns."""
    return tuple([names[symbol] if is_unknown(symbol) else symbol for symbol in symbols])


def check_pattern(thing):
    """Raise BadPattern if the thing is no Pattern."""
    if not isinstance(thing, Pattern):
        raise BadPattern(-1)


class Ways:
    """The ways of a pattern into a store, counted while they are gone through row by row."""

    def __init__(self, pattern, store):
        self.pattern = pattern
        self.totals = {}
        self.many = 0
        self._steps = [step_of(pattern, at, store) for at in range(len(pattern.rows))]

    def go_through(self, at, images, worth):
        """Go through all ways whose rows ahead of this index are taken; worth is what their powers come to so far."""
        if at == len(self._steps):
            key = tuple([images.get(symbol, symbol) for symbol in self.pattern.group])
            self.totals[key] = self.totals.get(key, 0) + worth
            return
        symbols = self.pattern.rows[at][1]
        places, found = self._steps[at]
        wanted = tuple([images.get(symbols[place], symbols[place]) for place in places])
        for row, factor in found.get(wanted, []):
            self.many += 1
            if self.many > MOST_WAYS:
                raise TooLong()
            self.go_through(at + 1, extended(images, symbols, row), worth * factor)


def step_of(pattern, at, store):
    """What a way needs to know to take a row of the store for the row of the pattern with this index.

    It is a tuple: the places of its symbols that are given or stand in earlier rows, and the dict from the values at
    these places to the rows with them, each with what the powers of its further symbols come to.
    """
    table, symbols = pattern.rows[at]
    earlier = unknowns_of(pattern.rows[:at])
    places = [place for place, symbol in enumerate(symbols) if not is_unknown(symbol) or symbol in earlier]
    powers = {unknown: power for unknown, power in pattern.powers if unknown not in earlier}
    found = {}
    for row in store.rows_of(table):
        images = extended({}, symbols, row)
        if images is not None:
            worth = 1
            for symbol in images:
                worth *= power_of(images[symbol], powers.get(symbol, 0))
            found.setdefault(tuple([row[place] for place in places]), []).append((row, worth))
    return (places, found)


def power_of(number, exponent):
    """The number, multiplied so and so often with itself."""
    worth = 1
    for _ in range(exponent):
        worth *= number
    return worth


def ways(pattern, store):
    """The dict from each key that the group has at some way to the sum of what the powers come to there."""
    check_pattern(pattern)
    if not isinstance(store, Store) or not fits(pattern, store.shape):
        raise BadStore(store)
    found = Ways(pattern, store)
    found.go_through(0, {}, 1)
    return found.totals


def fits(pattern, shape):
    """Whether the shape has the tables of the pattern, with as many fields as there are symbols."""
    widths = {table: len(fields) for table, fields in shape.tables}
    return all([widths.get(table, 0) == len(symbols) for table, symbols in pattern.rows])


def extended(images, symbols, others):
    """The dict images, from symbols to what they go over into, with these symbols going over into the others.

    None if that cannot be: an unknown goes over into one thing only, and a value into itself.
    """
    if len(symbols) != len(others):
        return None
    more = dict(images)
    for symbol, image in zip(symbols, others):
        if more.setdefault(symbol, image if is_unknown(symbol) else symbol) != image:
            return None
    return more


def group_map(one, other):
    """For each row of the one pattern the index of the row of the other that it goes to, None if there is no map."""
    check_pattern(one)
    check_pattern(other)
    return map_between(one.rows, one.group, other.rows, other.group)


def map_between(rows, group, others, other_group):
    """A map of the rows, with the group, into the others, with the other group; None if there is none."""
    images = extended({}, group, other_group)
    return None if images is None else map_from(rows, others, images)


def map_from(rows, others, images):
    """A map of the rows into the others, by which the symbols with images go over into these; None if there is none."""
    if len(rows) == 0:
        return ()
    # A row that can go nowhere is found here, and not only after all choices for the rows ahead of it.
    if not all([places_of(row, others, images) != [] for row in rows]):
        return None
    for at in places_of(rows[0], others, images):
        rest = map_from(rows[1:], others, extended(images, rows[0][1], others[at][1]))
        if rest is not None:
            return (at, *rest)
    return None


def places_of(row, others, images):
    """The list of the indexes of those of the others that the row can go to."""
    table, symbols = row
    return [at for at, (place, there) in enumerate(others)
            if place == table and extended(images, symbols, there) is not None]


def is_map(rows, group, others, other_group, thing):
    """Whether the thing, which may be anything, is a map of the rows into the others."""
    if not is_tuple(thing, len(rows)) or not all([is_integer(at) and 0 <= at < len(others) for at in thing]):
        return False
    return images_of(rows, group, others, other_group, thing) is not None


def images_of(rows, group, others, other_group, places):
    """What each symbol goes over into where the rows go to these places, None if they cannot."""
    images = extended({}, group, other_group)
    for at, (table, symbols) in zip(places, rows):
        if images is not None:
            place, there = others[at]
            images = extended(images, symbols, there) if place == table else None
    return images


class Pairings:
    """The pairings of two patterns, but no more of them than are wanted."""

    def __init__(self, one, other, wanted):
        self.found = []
        self._rows = one.rows
        self._others = other.rows
        self._traits = row_traits(one)
        self._other_traits = row_traits(other)
        self._wanted = wanted
        forth = extended({}, one.group, other.group)
        back = extended({}, other.group, one.group)
        if sorted(self._traits) == sorted(self._other_traits) and forth is not None and back is not None:
            self.pair_on((), forth, back)

    def pair_on(self, places, forth, back):
        """Pair the rows behind those that have places, in all ways."""
        at = len(places)
        if at == len(self._rows):
            self.found.append(places)
            return
        symbols = self._rows[at][1]
        for place, (_, others) in enumerate(self._others):
            if place not in places and self._traits[at] == self._other_traits[place]:
                there = extended(forth, symbols, others)
                here = extended(back, others, symbols)
                if there is not None and here is not None and len(self.found) < self._wanted:
                    self.pair_on((*places, place), there, here)


def row_traits(pattern):
    """For each row its table and, for each symbol, what stays the same whatever the unknowns are called."""
    traits = {symbol: (0, symbol, 0, 0) for _, symbols in pattern.rows for symbol in symbols}
    powers = {unknown: power for unknown, power in pattern.powers}
    for unknown in unknowns_of(pattern.rows):
        many = sum([symbols.count(unknown) for _, symbols in pattern.rows])
        traits[unknown] = (1, powers.get(unknown, 0), many, pattern.group.count(unknown))
    return [(table, tuple([traits[symbol] for symbol in symbols])) for table, symbols in pattern.rows]


def pairing(one, other):
    """For each row of the one pattern the index of its row in the other, None if they differ by more than names."""
    check_pattern(one)
    check_pattern(other)
    found = Pairings(one, other, 1).found
    return found[0] if found != [] else None


def is_pairing(one, other, thing):
    """Whether the thing, which may be anything, is a pairing of these two patterns."""
    many = len(other.rows)
    if len(one.rows) != many or not is_map(one.rows, one.group, other.rows, other.group, thing):
        return False
    if sorted(thing) != list(range(many)):
        return False
    back = tuple([thing.index(at) for at in range(many)])
    if not is_map(other.rows, other.group, one.rows, one.group, back):
        return False
    images = images_of(one.rows, one.group, other.rows, other.group, thing)
    return sorted([(images[unknown], power) for unknown, power in one.powers]) == list(other.powers)
