"""Nests: the rows, the group and the word of each put of an answer, and what they tell of the order of its keys."""

from firstmet.checks import LETTERS
from firstmet.errors import BadProgram, TooMany
from firstmet.patterns import MOST_PATTERN_ROWS, is_unknown, map_between, unknowns_of
from firstmet.programs import Program, goes_over_entries


class Draft:
    """Rows that are being put together. Their symbols are marks: numbers that can be made one with one another."""

    def __init__(self):
        self.rows = []
        # Whether two unlike values would have been made one.
        self.clashes = False
        # From each mark to one that it has been made one with, or to itself: it is the HEAD then.
        self._next = []
        # From the heads that have a value to it.
        self._given = {}

    def new_mark(self):
        """A mark that is not one with any other."""
        self._next.append(len(self._next))
        return len(self._next) - 1

    def mark_of(self, value):
        """A mark that is one with this value."""
        mark = self.new_mark()
        self._given[mark] = value
        return mark

    def head_of(self, mark):
        """The head of all marks that are one with this one."""
        while self._next[mark] != mark:
            mark = self._next[mark]
        return mark

    def make_one(self, one, other):
        """Make two marks one."""
        head, behind = self.head_of(one), self.head_of(other)
        self._next[behind] = head
        if behind in self._given:
            value = self._given[behind]
            if self._given.setdefault(head, value) != value:
                self.clashes = True

    def new_row(self, table, width):
        """Add a row with new marks, which are returned."""
        marks = [self.new_mark() for _ in range(width)]
        self.rows.append((table, marks))
        return marks

    def take_rows(self, rows):
        """Add the rows of a nest or a pattern; the dict from its symbols to their marks, new ones for its unknowns."""
        marks = {}
        for table, symbols in rows:
            self.rows.append((table, self.marks_of(symbols, marks)))
        return marks

    def marks_of(self, symbols, marks):
        """The list of the marks of the symbols; what has none in the dict of marks gets a new one there."""
        for symbol in symbols:
            if symbol not in marks:
                marks[symbol] = self.new_mark() if is_unknown(symbol) else self.mark_of(symbol)
        return [marks[symbol] for symbol in symbols]

    def symbols(self):
        """The list of the symbols of all marks: values, and names in the order in which the unknowns stand in rows."""
        names = dict(self._given)
        many = 0
        for _, marks in self.rows:
            for mark in marks:
                head = self.head_of(mark)
                if head not in names:
                    names[head] = LETTERS[many]
                    many += 1
        return [names[self.head_of(mark)] for mark in range(len(self._next))]


class Walk:
    """The way inwards to a put: a draft of the rows met so far, and the marks of what stands for the variables."""

    def __init__(self, program):
        self.code = program
        self.draft = Draft()
        # From each variable to the dict from its fields or keys to their marks.
        self.around = {}

    def mark(self, term):
        """The mark of the term, a factor that is no sum among them."""
        if isinstance(term, tuple):
            _, v, field = term
            return self.around[v][field]
        return self.draft.mark_of(term)

    def make_terms_one(self, statement):
        """Go into a same."""
        _, left, right, _ = statement
        self.draft.make_one(self.mark(left), self.mark(right))

    def meet_row(self, statement):
        """Go into a scan, run or seek."""
        kind, v, table = statement[:3]
        fields = self.code.shape.fields_of(table)
        self.around[v] = dict(zip(fields, self.draft.new_row(table, len(fields))))
        if kind == "seek":
            self.draft.make_one(self.around[v][statement[3]], self.mark(statement[4]))

    def meet_entry(self, statement, groups):
        """Go into an each, rise or look whose rows are in the draft; each of the groups has the marks of its keys."""
        kind, v, block = statement[:3]
        for group in groups[1:]:
            self.make_all_one(groups[0], group)
        keys, _ = fields_of_block(self.code, block)
        self.around[v] = dict(zip(keys, groups[0]))
        if kind == "look":
            self.make_all_one(groups[0], [self.mark(term) for term in statement[3]])

    def make_all_one(self, marks, others):
        """Make the first marks one, the second ones, and so on."""
        for mark, other in zip(marks, others):
            self.draft.make_one(mark, other)


class NestMaker:
    """Makes the nests of the puts of a program: tuples (rows, group, word), each with whether it is empty."""

    def __init__(self, program):
        self.code = program
        self._made = {}

    def nests_of_block(self, block):
        """The list of the nests of the block's puts, in the order of their top statements."""
        if block not in self._made:
            self._made[block] = [self.nest_of(path) for path in paths_to(self.code.body, block)]
        return self._made[block]

    def nest_of(self, path):
        """The nest of the put at the end of the path."""
        walk = Walk(self.code)
        word = []
        empty = False
        for statement in path[:-1]:
            if statement[0] == "same":
                walk.make_terms_one(statement)
            elif goes_over_entries(statement[0]):
                # A block that is read has just one put.
                nest, nothing = self.nests_of_block(statement[2])[0]
                word.extend(self.enter(walk, statement, nest))
                empty = empty or nothing
            else:
                word.extend(self.pass_row(walk, statement))
            if len(walk.draft.rows) > MOST_PATTERN_ROWS:
                raise TooMany()
        group = [walk.mark(term) for term in path[-1][2]]
        symbols = walk.draft.symbols()
        told = tuple([(kind, symbols[at] if kind == "value" else at) for kind, at in word])
        nest = (told_rows(walk.draft.rows, symbols), told_marks(group, symbols), told)
        return (nest, empty or walk.draft.clashes)

    def pass_row(self, walk, statement):
        """Go into a scan, run or seek; what it gives to the word, with marks in the place of symbols."""
        at = len(walk.draft.rows)
        walk.meet_row(statement)
        if statement[0] == "run":
            return [("value", walk.around[statement[1]][statement[3]]), ("row", at)]
        return [("row", at)]

    def enter(self, walk, statement, nest):
        """Go into an each, rise or look of a block with this nest; what it gives to the word, likewise."""
        rows, group, word = nest
        ahead = len(walk.draft.rows)
        marks = walk.draft.take_rows(rows)
        walk.meet_entry(statement, [walk.draft.marks_of(group, marks)])
        if statement[0] == "look":
            return []
        inner = [(kind, walk.draft.marks_of([at], marks)[0] if kind == "value" else ahead + at) for kind, at in word]
        if statement[0] == "rise":
            return [("value", walk.around[statement[1]][statement[3]]), *inner]
        return inner


def told_marks(marks, symbols):
    """The tuple of the symbols of the marks."""
    return tuple([symbols[mark] for mark in marks])


def told_rows(rows, symbols):
    """The tuple of the rows with symbols in the place of marks."""
    return tuple([(table, told_marks(marks, symbols)) for table, marks in rows])


def fields_of_block(program, block):
    """The tuples of the keys and of the sums of the block."""
    fields = {name: (keys, sums) for name, keys, sums in program.blocks}
    return fields[block]


def paths_to(body, block):
    """The list of the ways inwards to the puts of the block: tuples of statements, from a top statement to the put."""
    paths = []
    for statement in body:
        if statement[0] != "put":
            paths.extend([(statement, *path) for path in paths_to(statement[-1], block)])
        elif statement[1] == block:
            paths.append((statement,))
    return paths


def check_program(thing):
    """Raise BadProgram if the thing is no Program."""
    if not isinstance(thing, Program):
        raise BadProgram(thing)


def has_keys(program):
    """Whether the answer of the program has keys."""
    return program.blocks[-1][1] != ()


def nests_of(program):
    """The list of the nests of the answer that are not empty, in the order of their top statements."""
    check_program(program)
    answer = program.blocks[-1][0]
    return [nest for nest, empty in NestMaker(program).nests_of_block(answer) if not empty]


def is_plain(program):
    """Whether the answer has no keys, or the program has plain nests alone that are not in one another's way."""
    nests = nests_of(program)
    return not has_keys(program) or first_not_plain(nests) is None


def first_not_plain(nests):
    """The index of the first nest that is not plain or, if there are several, has a given symbol in a row, or None."""
    for at, nest in enumerate(nests):
        if not is_plain_nest(nest) or (len(nests) > 1 and has_given(nest)):
            return at
    return None


def has_given(nest):
    """Whether a row of the nest has a given symbol."""
    return any([not is_unknown(symbol) for _, symbols in nest[0] for symbol in symbols])


def is_plain_nest(nest):
    """Whether no table stands twice, each row has an unknown, all hang together, and one is in the group."""
    rows, group, _ = nest
    unknowns = unknowns_of(rows)
    if len(set([table for table, _ in rows])) != len(rows) or not any([is_unknown(symbol) for symbol in group]):
        return False
    if not all([any([is_unknown(symbol) for symbol in symbols]) for _, symbols in rows]):
        return False
    return len(hanging(rows, unknowns[:1], {})) == len(unknowns)


def hanging(rows, symbols, known):
    """The unknowns that hang together with one of the symbols where those in the dict known count for nothing.

    They are the keys of a dict; those of the symbols that are unknowns and not known are among them.
    """
    found = {symbol: True for symbol in symbols if is_unknown(symbol) and symbol not in known}
    many = 0
    while len(found) > many:
        many = len(found)
        for _, beside in rows:
            waiting = [symbol for symbol in beside if is_unknown(symbol) and symbol not in known]
            if any([symbol in found for symbol in waiting]):
                found.update({symbol: True for symbol in waiting})
    return found


def deciding(nest):
    """The tuple of those coordinates of the plain nest's word that decide."""
    rows, group, word = nest
    known = {}
    decide = []
    for kind, at in word:
        symbols = rows[at][1] if kind == "row" else (at,)
        waiting = hanging(rows, group, known)
        if any([symbol in waiting for symbol in symbols]):
            decide.append((kind, at))
            known.update({symbol: True for symbol in symbols if is_unknown(symbol)})
    return tuple(decide)


def staying(program):
    """The ascending tuple of the indexes of the nests that no nest ahead covers."""
    return staying_of(nests_of(program))


def staying_of(nests):
    """The same for these nests."""
    return tuple([at for at, nest in enumerate(nests) if not is_covered(nest, nests[:at])])


def is_covered(nest, ahead):
    """Whether there is a map from one of the nests ahead into this one."""
    rows, group, _ = nest
    return any([map_between(others, aim, rows, group) is not None for others, aim, _ in ahead])
