"""What does not matter to an answer: tables whose rows do not change it, and top statements that can be left out."""

from firstmet.alikes import alike
from firstmet.checks import is_tuple
from firstmet.errors import BadMove, NotPlain, TooLong, TooMany
from firstmet.moves import is_right, moved
from firstmet.nests import check_program, has_keys, nests_of, staying_of
from firstmet.patterns import unknowns_of
from firstmet.running import run
from firstmet.samekeys import alone, frozen, map_into, store_of, unlike_values, values_in
from firstmet.sameorder import rows_beside
from firstmet.samesums import Parting
from firstmet.sums import all_sum_patterns
from firstmet.tables import Store


class Answer:
    """What tells the answer of a program of which alike can be asked: its nests and its sum patterns."""

    def __init__(self, program):
        # Whatever it says of a program and itself, it may have an error to tell.
        alike(program, program)
        self.code = program
        self.nests = nests_of(program)
        self.patterns = all_sum_patterns(program)

    def is_idle(self, table):
        """Whether the rows of the table change nothing."""
        if any([stands_in(table, pattern.rows) for patterns in self.patterns for _, pattern in patterns]):
            return False
        return self.stirred_nest(table) is None

    def stirred_nest(self, table):
        """A nest with the table of which the answer shows whether it has a way, None if there is none."""
        if has_keys(self.code):
            found = [self.nests[at] for at in staying_of(self.nests) if stands_in(table, self.nests[at][0])]
        else:
            found = alone(self.nests, self.nests_without(table))
        return found[0] if found != [] else None

    def nests_without(self, table):
        """The list of the nests without the table."""
        return [nest for nest in self.nests if not stands_in(table, nest[0])]

    def stirring_store(self, table):
        """A store that gives another answer without the rows of the table, None if the table is idle."""
        for patterns in self.patterns:
            stirred = [(multiple, pattern) for multiple, pattern in patterns if stands_in(table, pattern.rows)]
            if stirred != []:
                # Without the rows of the table just these patterns come to nothing.
                return Parting(stirred, values_in(self.code.body)).told_store(self.code.shape)
        nest = self.stirred_nest(table)
        return None if nest is None else store_of(self.code.shape, self.rows_that_stir(table, nest))

    def rows_that_stir(self, table, nest):
        """Rows on which the answer shows whether the nest, which has the table, has a way.

        If other nests give its key without the table, the first of them has a way of its own ahead of that into the
        nest: so the key of that way comes first without the table, and only then.
        """
        rows, _, _ = nest
        others = self.nests_without(table)
        found = map_into(nest, others)
        if found is not None:
            at, _ = found
            return rows_beside(self.code, self.code, others[at][0], rows)
        unknowns = unknowns_of(rows)
        return frozen(rows, dict(zip(unknowns, unlike_values(self.code, self.code, len(unknowns)))))


def stands_in(table, rows):
    """Whether one of the rows is of the table."""
    return table in [place for place, _ in rows]


def idle_tables(program):
    """The list of the tables whose rows never change the answer, in the order of the shape."""
    answer = Answer(program)
    return [table for table, _ in program.shape.tables if answer.is_idle(table)]


def stirring(program, table):
    """Two stores that differ in the rows of the table alone and have unlike answers, None if there are none."""
    check_table(program, table)
    store = Answer(program).stirring_store(table)
    return None if store is None else (store, without_rows(store, table))


def check_table(program, table):
    """Raise an error if this is no program, or no table of its shape."""
    check_program(program)
    program.shape.fields_of(table)


def without_rows(store, table):
    """The store that has no rows in the table, and in all other tables what this one has."""
    others = [name for name, _ in store.shape.tables if name != table]
    return Store(store.shape, {name: store.rows_of(name) for name in others})


def is_stirring(program, table, thing):
    """Whether the thing, which may be anything, is a tuple of two stores that differ so and have unlike answers."""
    check_table(program, table)
    if not is_tuple(thing, 2) or not all([is_store_for(program, part) for part in thing]):
        return False
    one, other = thing
    if without_rows(one, table) != without_rows(other, table):
        return False
    try:
        return run(program, one) != run(program, other)
    except TooLong:
        return False


def is_store_for(program, thing):
    """Whether the thing is a store of the shape of the program."""
    return isinstance(thing, Store) and thing.shape == program.shape


def needless(program):
    """The ascending list of the indexes of the top statements that can be left out."""
    # Whatever it says of a program and itself, it may have an error to tell.
    alike(program, program)
    return [at for at, _ in enumerate(program.body) if is_right_drop(program, at)]


def is_right_drop(program, at):
    """Whether the top statement with this index can be left out."""
    try:
        return is_right(program, ("drop", at))
    except (BadMove, NotPlain, TooMany):
        return False


def lean(program):
    """The program without its first top statement that can be left out, and so on until there is none."""
    waste = needless(program)
    while waste != []:
        program = moved(program, ("drop", waste[0]))
        waste = needless(program)
    return program
