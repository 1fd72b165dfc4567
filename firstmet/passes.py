"""Passes: top statements that go over the same rows made one, and how few passes over the tables are enough."""

from firstmet.checks import is_integer, is_tuple
from firstmet.errors import BadCount, BadPlan, BadProgram, TooMany
from firstmet.moves import body_of, both_in_one, pass_kind, statements_in
from firstmet.nests import check_program
from firstmet.programs import MOST_IN_A_BODY, MOST_TOP_STATEMENTS, Program, goes_over_entries


class Tops:
    """What a plan has to know of the top statements of a program.

    Several top statements are told by a MASK, an integer in which the bit 1 << at stands for the one with the index at.
    """

    def __init__(self, program):
        self.many = len(program.body)
        # From each pass kind to the mask of its top statements.
        self.kinds = {}
        for at in range(self.many):
            kind = pass_kind(program.body, at)
            self.kinds[kind] = self.kinds.get(kind, 0) | (1 << at)
        self.widths = [len(body_of(statement)) for statement in program.body]
        self.needs = [needs_of(program.body, at) for at in range(self.many)]

    def everything(self):
        """The mask of all top statements."""
        return (1 << self.many) - 1

    def ready(self, done, kind):
        """The mask of those of this kind that are not done and have all their needs done."""
        return mask_of([at for at in self.indexes(self.kinds[kind] & ~done) if (self.needs[at] & ~done) == 0])

    def indexes(self, mask):
        """The ascending tuple of the indexes that the mask stands for."""
        return tuple([at for at in range(self.many) if ((mask >> at) & 1) == 1])

    def width(self, mask):
        """How many statements the bodies of these top statements have together."""
        return sum([self.widths[at] for at in self.indexes(mask)])

    def is_set(self, thing):
        """Whether the thing, which may be anything, is an ascending tuple of unlike indexes."""
        if not isinstance(thing, tuple) or not all([is_integer(at) and 0 <= at < self.many for at in thing]):
            return False
        return self.indexes(mask_of(thing)) == thing

    def can_be_a_pass(self, done, mask):
        """Whether these top statements are of one kind and none too many, and have all their needs done."""
        kinds = [kind for kind in self.kinds if (self.kinds[kind] & mask) != 0]
        if len(kinds) != 1 or self.width(mask) > MOST_IN_A_BODY:
            return False
        return (self.ready(done, kinds[0]) & mask) == mask


def mask_of(indexes):
    """The mask that stands for these indexes."""
    mask = 0
    for at in indexes:
        mask = mask | (1 << at)
    return mask


def needs_of(body, at):
    """The mask of the top statements that the one with this index needs."""
    mine = statements_in([body[at]])
    named = {name: True for name in blocks_put(mine) + blocks_read(mine)}
    return mask_of([ahead for ahead in range(at)
                    if any([name in named for name in blocks_put(statements_in([body[ahead]]))])])


def blocks_put(statements):
    """The list of the blocks that these statements put."""
    return [statement[1] for statement in statements if statement[0] == "put"]


def blocks_read(statements):
    """The list of the blocks that these statements read."""
    return [statement[2] for statement in statements if goes_over_entries(statement[0])]


def is_plan(program, thing):
    """Whether the thing, which may be anything, is a plan of passes for the program."""
    check_program(program)
    tops = Tops(program)
    if not isinstance(thing, tuple) or not all([tops.is_set(part) for part in thing]):
        return False
    done = 0
    for part in thing:
        mask = mask_of(part)
        if not tops.can_be_a_pass(done, mask):
            return False
        done = done | mask
    return done == tops.everything()


def fused(program, plan):
    """The program in which each pass of the plan is one top statement."""
    if not is_plan(program, plan):
        raise BadPlan(plan)
    body = [one_statement([program.body[at] for at in part]) for part in plan]
    try:
        return Program(program.shape, program.blocks, body)
    except BadProgram:
        raise BadProgram(program) from None


def one_statement(statements):
    """The one statement that does what the top statements of a pass do."""
    whole = statements[0]
    for statement in statements[1:]:
        whole = both_in_one(whole, statement)
    return whole


def fewest_passes(program):
    """The least number of passes of a plan."""
    return len(best_plan(program))


def best_plan(program):
    """A plan with as few passes as can be."""
    check_program(program)
    tops = narrow_tops(program)
    # From the mask of what can be done in so many passes to the passes that do it. A pass that leaves out what is
    # ready does not help, as later passes can only have more to wait for.
    plans = {0: ()}
    while tops.everything() not in plans:
        longer = {}
        for done in plans:
            for kind in tops.kinds:
                ready = tops.ready(done, kind)
                if ready != 0:
                    longer[done | ready] = (*plans[done], tops.indexes(ready))
        plans = longer
    return plans[tops.everything()]


def narrow_tops(program):
    """What a plan has to know of a program of which all top statements of one kind could be one pass, needs aside."""
    tops = Tops(program)
    if any([tops.width(tops.kinds[kind]) > MOST_IN_A_BODY for kind in tops.kinds]):
        raise TooMany()
    return tops


def check_count(m):
    """Raise BadCount if the thing is no number of passes."""
    if not is_integer(m) or not 0 <= m <= MOST_TOP_STATEMENTS:
        raise BadCount(m)


def shut_paper(program, m):
    """For each number of passes up to m the sets of what can be done in so many, None if m passes are enough."""
    check_program(program)
    check_count(m)
    tops = narrow_tops(program)
    row = [0]
    rows = [row]
    for _ in range(m):
        row = list({done: True for ahead in row for done in grown(tops, ahead)})
        rows.append(row)
    if tops.everything() in row:
        return None
    return tuple([tuple([tops.indexes(done) for done in masks]) for masks in rows])


def grown(tops, done):
    """The list of what is done, for each pass kind, behind a pass of all that is ready of this kind."""
    return [done | tops.ready(done, kind) for kind in tops.kinds]


def is_shut_paper(program, m, thing):
    """Whether the thing, which may be anything, shows that m passes are not enough."""
    check_program(program)
    check_count(m)
    tops = Tops(program)
    if not is_tuple(thing, m + 1) or not all([is_row_of_sets(tops, row) for row in thing]):
        return False
    rows = [{mask_of(part): True for part in row} for row in thing]
    if 0 not in rows[0] or tops.everything() in rows[m]:
        return False
    return all([leads_on(tops, row, behind) for row, behind in zip(rows, rows[1:])])


def is_row_of_sets(tops, thing):
    """Whether the thing is a row of ascending tuples of unlike indexes."""
    return isinstance(thing, (list, tuple)) and all([tops.is_set(part) for part in thing])


def leads_on(tops, row, behind):
    """Whether all that can be done with one more pass than in this row is a part of a set of the row behind."""
    wanted = {done: True for ahead in row for done in grown(tops, ahead)}
    return all([is_part_of_one(done, behind) for done in wanted])


def is_part_of_one(done, masks):
    """Whether all that is done stands in one of these masks."""
    return done in masks or any([(done & ~mask) == 0 for mask in masks])
