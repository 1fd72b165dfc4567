"""Sum patterns: what each sum of an answer is on every store, told by patterns and their multiples."""

from firstmet.checks import is_integer
from firstmet.errors import BadIndex, TooMany
from firstmet.nests import Walk, check_program, fields_of_block, paths_to, told_marks, told_rows
from firstmet.patterns import MOST_PATTERN_ROWS, Pattern, is_unknown, pairing, power_of, row_traits
from firstmet.programs import goes_over_entries

MOST_GATHERED = 60


class Gathering:
    """Patterns with multiples, those that are the same but for names gathered in the first one of them."""

    def __init__(self):
        self._patterns = []
        self._multiples = []
        # From what patterns that are the same but for names have in common to the indexes of those that have it.
        self._alike = {}

    def gather(self, multiple, pattern):
        """Add so many times the pattern."""
        traits = tuple(sorted(row_traits(pattern)))
        alike = self._alike.setdefault(traits, [])
        for at in alike:
            if pairing(self._patterns[at], pattern) is not None:
                self._multiples[at] += multiple
                return
        if len(self._patterns) == MOST_GATHERED:
            raise TooMany()
        alike.append(len(self._patterns))
        self._patterns.append(pattern)
        self._multiples.append(multiple)

    def left(self):
        """The list of the tuples (multiple, pattern) whose multiple is not 0."""
        return [(multiple, pattern) for multiple, pattern in zip(self._multiples, self._patterns) if multiple != 0]


class SumMaker:
    """Makes the sum patterns of the sums of a program's blocks."""

    def __init__(self, program):
        self.code = program
        self._made = {}

    def patterns_of(self, block, at):
        """The list of the sum patterns of the sum of the block with this index."""
        if (block, at) not in self._made:
            gathering = Gathering()
            for path in paths_to(self.code.body, block):
                _, _, _, adds = path[-1]
                for product in adds[at]:
                    self.gather_product(path, product, gathering)
            self._made[(block, at)] = gathering.left()
        return self._made[(block, at)]

    def gather_product(self, path, product, gathering):
        """Gather the patterns that the product gives in the put at the end of the path, one for each choice."""
        sums = self.sums_in(path, product)
        lists = [self.patterns_of(block, at) for _, block, at in sums]
        if [] in lists:
            return
        rows = len([statement for statement in path if statement[0] in ("scan", "run", "seek")])
        # Each pattern of a list is chosen with each one of the others, so the longest ones are chosen together.
        if rows + sum([longest(patterns) for patterns in lists]) > MOST_PATTERN_ROWS:
            raise TooMany()
        for choice in choices(lists):
            multiple, pattern = self.chosen(path, product, list(zip(sums, choice)))
            if pattern is not None:
                gathering.gather(multiple, pattern)

    def sums_in(self, path, product):
        """The list of the factors that are sums, in order: tuples of variable, block and index of the sum."""
        blocks = {statement[1]: statement[2] for statement in path if goes_over_entries(statement[0])}
        found = []
        for _, v, name in product[1]:
            if v in blocks:
                _, sums = fields_of_block(self.code, blocks[v])
                if name in sums:
                    found.append((v, blocks[v], sums.index(name)))
        return found

    def chosen(self, path, product, choice):
        """The multiple and the pattern that come of a choice, None for the pattern if it gives nothing.

        A choice is a list of tuples of what sums_in tells of a sum and one of its sum patterns.
        """
        walk = Walk(self.code)
        powers = []
        worth, factors = product
        for statement in path[:-1]:
            if statement[0] == "same":
                walk.make_terms_one(statement)
            elif goes_over_entries(statement[0]):
                patterns = [pattern for (v, _, _), (_, pattern) in choice if v == statement[1]]
                powers.extend(enter(walk, statement, patterns))
            else:
                walk.meet_row(statement)
        if walk.draft.clashes:
            return (0, None)
        for _, v, name in factors:
            if name in walk.around[v]:
                powers.append((walk.around[v][name], 1))
        for _, (multiple, _) in choice:
            worth *= multiple
        return powered(walk, path[-1], worth, powers)


def enter(walk, statement, patterns):
    """Go into an each, rise or look whose entry gives the rows of these patterns; the marks with their powers."""
    groups = []
    powers = []
    for pattern in patterns:
        marks = walk.draft.take_rows(pattern.rows)
        groups.append(walk.draft.marks_of(pattern.group, marks))
        powers.extend([(marks[unknown], power) for unknown, power in pattern.powers])
    walk.meet_entry(statement, groups)
    return powers


def powered(walk, put, worth, powers):
    """The multiple and the pattern of a put whose marks have these powers, several ones for a mark multiplied."""
    _, _, terms, _ = put
    group = [walk.mark(term) for term in terms]
    symbols = walk.draft.symbols()
    counted = {}
    for mark, power in powers:
        symbol = symbols[mark]
        if is_unknown(symbol):
            counted[symbol] = counted.get(symbol, 0) + power
        else:
            worth *= power_of(symbol, power)
    return (worth, Pattern(told_rows(walk.draft.rows, symbols), told_marks(group, symbols), counted))


def longest(patterns):
    """The number of rows of the longest pattern."""
    return max([len(pattern.rows) for _, pattern in patterns])


def choices(lists):
    """The list of all ways to choose one of each list, the one of the last list changing fastest."""
    chosen = [()]
    for options in lists:
        chosen = [(*choice, option) for choice in chosen for option in options]
    return chosen


def sum_patterns(program, at):
    """The list of the tuples (multiple, pattern) that tell the sum of the answer with this index."""
    check_program(program)
    name, _, sums = program.blocks[-1]
    if not is_integer(at) or not 0 <= at < len(sums):
        raise BadIndex(at)
    return list(SumMaker(program).patterns_of(name, at))


def all_sum_patterns(program):
    """The list of what sum_patterns tells of each sum of the answer of a program."""
    maker = SumMaker(program)
    name, _, sums = program.blocks[-1]
    return [maker.patterns_of(name, at) for at, _ in enumerate(sums)]
