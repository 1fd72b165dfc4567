"""Whether two programs give the same sums on every store."""

from firstmet.checks import is_integer, is_tuple
from firstmet.patterns import Pairings, Pattern, extended, images_of, is_pairing, pairing, power_of, unknowns_of
from firstmet.samekeys import check_pair, frozen, values_in
from firstmet.sums import all_sum_patterns
from firstmet.tables import Store

# A pattern has at most 6 rows, so that there are no more pairings than orders of them.
MOST_PAIRINGS = 720


def sums_of_pair(one, other):
    """The list of a tuple for each sum: the sum patterns of the one program and those of the other."""
    check_pair(one, other)
    mine = all_sum_patterns(one)
    return list(zip(mine, all_sum_patterns(other)))


def same_sums(one, other):
    """Whether on every store both answers tell the same sums for each key."""
    return sums_paper(one, other) is not None


def sums_paper(one, other):
    """For each sum the pairs of sum patterns that are the same but for names, None if they cannot be paired."""
    paper = tuple([paired(mine, yours) for mine, yours in sums_of_pair(one, other)])
    return None if None in paper else paper


def paired(patterns, others):
    """The tuple of tuples (i, j, pairing) that pairs all patterns with all others, None if there is none."""
    pairs = tuple([pair_of(at, patterns[at], others) for at in range(len(patterns))])
    # No two patterns of one list are the same but for names, so each of the others is met once at most.
    return None if len(patterns) != len(others) or None in pairs else pairs


def pair_of(at, one, others):
    """The tuple (at, j, pairing) for the pattern with this index and multiple, None if none of the others is its."""
    multiple, pattern = one
    for place, (worth, other) in enumerate(others):
        places = pairing(pattern, other) if worth == multiple else None
        if places is not None:
            return (at, place, places)
    return None


def is_sums_paper(one, other, thing):
    """Whether the thing, which may be anything, is a sums paper of the two programs."""
    sums = sums_of_pair(one, other)
    if not is_tuple(thing, len(sums)):
        return False
    return all([are_pairs(mine, yours, part) for (mine, yours), part in zip(sums, thing)])


def are_pairs(patterns, others, thing):
    """Whether the thing is a tuple that pairs all patterns with all others."""
    if len(patterns) != len(others) or not is_tuple(thing, len(patterns)):
        return False
    if not all([is_pair(at, patterns[at], others, part) for at, part in enumerate(thing)]):
        return False
    return len(set([place for _, place, _ in thing])) == len(others)


def is_pair(at, one, others, thing):
    """Whether the thing is a tuple (at, j, pairing) for the pattern with this index and multiple."""
    if not is_tuple(thing, 3) or not is_integer(thing[0]) or thing[0] != at:
        return False
    if not is_integer(thing[1]) or not 0 <= thing[1] < len(others):
        return False
    multiple, pattern = one
    worth, other = others[thing[1]]
    return worth == multiple and is_pairing(pattern, other, thing[2])


def parting_sums(one, other):
    """A store on which for some key some sum differs, None if there is none."""
    for mine, yours in sums_of_pair(one, other):
        patterns = difference(mine, yours)
        if patterns != []:
            used = values_in(one.body) + values_in(other.body)
            return Parting(patterns, used).told_store(one.shape)
    return None


def difference(patterns, others):
    """The list of the tuples (multiple, pattern) that tell the one sum less the other one, no two patterns the same."""
    left = [(multiple - multiple_of(pattern, others), pattern) for multiple, pattern in patterns]
    left.extend([(-multiple, pattern) for multiple, pattern in others if multiple_of(pattern, patterns) == 0])
    return [(multiple, pattern) for multiple, pattern in left if multiple != 0]


def multiple_of(pattern, others):
    """The multiple of that one of the others that is the same but for names, 0 if there is none."""
    return sum([multiple for multiple, other in others if pairing(pattern, other) is not None])


class Parting:
    """Looks for a store on which the sum that these patterns tell is not 0 for some key.

    The store has the rows of a LEADING pattern, each so and so often, with a value of its own for each unknown, and
    the key is what the group is there. So the sum is a POLYNOMIAL in these numbers and values, told by a dict from
    tuples of exponents to what they are multiplied with.

    Only a pattern that differs from the leading one in its powers alone, if at all, meets each row just as often as
    that one does: any other one has fewer rows, or fewer unknowns, or rows that do not fit. So values are taken first
    that make not 0 what these patterns come to, and with them numbers are left that make the whole sum not 0. A
    polynomial that is not 0 stays so for all but a few values of a variable; the least ones that will do are taken.
    """

    def __init__(self, patterns, used):
        self.patterns = patterns
        self.used = used
        _, self.leading = max(patterns, key=size_of)
        self.unknowns = unknowns_of(self.leading.rows)
        self.unlike_rows = list({row: True for row in self.leading.rows})

    def told_store(self, shape):
        """A store of this shape on which the sum is not 0."""
        images = dict(zip(self.unknowns, self.told_values()))
        found = {table: [] for table, _ in shape.tables}
        for (table, row), many in zip(frozen(self.unlike_rows, images), self.told_numbers(images)):
            found[table].extend([row] * many)
        return Store(shape, found)

    def told_values(self):
        """A value for each unknown; the values are unlike one another and those that are used."""
        polynomial = self.polynomial_of_pairings()
        values = []
        for at in range(len(self.unknowns)):
            value = 1
            while value in self.used or value in values or put_in(polynomial, at, value) == {}:
                value += 1
            polynomial = put_in(polynomial, at, value)
            values.append(value)
        return values

    def polynomial_of_pairings(self):
        """What all pairings with the leading pattern come to, powers aside: a polynomial in the values."""
        total = {}
        aim = without_powers(self.leading)
        for multiple, pattern in self.patterns:
            for places in Pairings(without_powers(pattern), aim, MOST_PAIRINGS).found:
                images = images_of(pattern.rows, pattern.group, aim.rows, aim.group, places)
                powers = {images[unknown]: power for unknown, power in pattern.powers}
                exponents = tuple([powers.get(unknown, 0) for unknown in self.unknowns])
                total[exponents] = total.get(exponents, 0) + multiple
        return total

    def told_numbers(self, images):
        """How often each row is to stand there; images has the values of the unknowns."""
        polynomial = {}
        for multiple, pattern in self.patterns:
            add_to(polynomial, Count(pattern, self.leading.group, self.unlike_rows, images).told(), multiple)
        numbers = []
        for at in range(len(self.unlike_rows)):
            # A row that can be left out is left out: so runs are short where they can be.
            many = 0
            while put_in(polynomial, at, many) == {}:
                many += 1
            polynomial = put_in(polynomial, at, many)
            numbers.append(many)
        return numbers


class Count:
    """Counts the ways of a pattern that give one key, as a polynomial in how often each row of a store stands there.

    The store is told by unlike rows of symbols, the key by a group, the values of unknowns by the dict images.
    """

    def __init__(self, pattern, group, rows, images):
        self.pattern = pattern
        self.group = group
        self.unlike_rows = rows
        self.images = images
        self.powers = {unknown: power for unknown, power in pattern.powers}

    def told(self):
        """The polynomial; ways that agree in all that later rows ask for are taken together."""
        fixed = extended({}, self.pattern.group, self.group)
        if fixed is None:
            return {}
        no_rows = tuple([0 for _ in self.unlike_rows])
        states = {(): {no_rows: self.worth_of(fixed)}}
        for at in range(len(self.pattern.rows)):
            states = self.behind_row(at, fixed, states)
        return states.get((), {})

    def behind_row(self, at, fixed, states):
        """What is found behind the row with this index: for each state the polynomial of the ways that lead to it.

        A state is a tuple of tuples of those unknowns that later rows ask for and what they go over into. The fixed
        ones, those of the group, always go over into the same.
        """
        table, symbols = self.pattern.rows[at]
        later = unknowns_of(self.pattern.rows[at + 1:])
        asked = [unknown for unknown in unknowns_of(self.pattern.rows[:at + 1]) if unknown in later]
        found = {}
        for state in states:
            ahead = {**fixed, **dict(state)}
            for place, (there, others) in enumerate(self.unlike_rows):
                images = extended(ahead, symbols, others) if there == table else None
                if images is not None:
                    worth = self.worth_of({symbol: images[symbol] for symbol in images if symbol not in ahead})
                    left = tuple([(unknown, images[unknown]) for unknown in asked if unknown not in fixed])
                    add_to(found.setdefault(left, {}), once_more(states[state], place), worth)
        return found

    def worth_of(self, images):
        """What the powers of the symbols come to that go over into these."""
        worth = 1
        for symbol in images:
            value = self.images.get(images[symbol], images[symbol])
            worth *= power_of(value, self.powers.get(symbol, 0))
        return worth


def size_of(part):
    """How many rows and unknowns the pattern of a tuple (multiple, pattern) has."""
    _, pattern = part
    return (len(pattern.rows), len(unknowns_of(pattern.rows)))


def without_powers(pattern):
    """The pattern with all powers left out."""
    return Pattern(pattern.rows, pattern.group, {})


def add_to(total, polynomial, multiple):
    """Add so many times the polynomial to the total."""
    for exponents in polynomial:
        total[exponents] = total.get(exponents, 0) + multiple * polynomial[exponents]


def once_more(polynomial, at):
    """The polynomial times the variable with this index."""
    return {(*exponents[:at], exponents[at] + 1, *exponents[at + 1:]): polynomial[exponents]
            for exponents in polynomial}


def put_in(polynomial, at, value):
    """The polynomial with the value in the place of the variable with this index, without what comes to 0."""
    found = {}
    for exponents in polynomial:
        left = (*exponents[:at], 0, *exponents[at + 1:])
        found[left] = found.get(left, 0) + polynomial[exponents] * power_of(value, exponents[at])
    return {exponents: found[exponents] for exponents in found if found[exponents] != 0}
