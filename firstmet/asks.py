"""Asks: sums over all ways to choose a row of each of some tables or asks, and the programs that they mean."""

from firstmet.alikes import alike
from firstmet.checks import as_tuples, is_row, is_tuple
from firstmet.errors import BadAsk, BadAsks, BadBlock, BadProgram, BadStore
from firstmet.nests import check_program
from firstmet.programs import MOST_BLOCKS, MOST_KEYS, MOST_SUMS, Program, fields_of_table
from firstmet.running import run
from firstmet.tables import Shape

MOST_PARTS = 3
MOST_SAMES = 4


class Asks:
    """Asks that keep all rules; the last one is what is asked."""

    def __init__(self, shape, asks):
        if not isinstance(shape, Shape):
            raise BadStore(shape)
        if not is_row(asks, 1, MOST_BLOCKS):
            raise BadAsk(-1)
        for at, ask in enumerate(asks):
            if not is_ask(ask) or not mean_program(shape, asks[:at + 1]):
                raise BadAsk(at)
        self.shape = shape
        self.asks = as_tuples(asks)

    def __eq__(self, other):
        return isinstance(other, Asks) and self.shape == other.shape and self.asks == other.asks


def is_ask(thing):
    """Whether the thing has the form of an ask; what stands in it is asked of the program that it means."""
    if not is_tuple(thing, 5):
        return False
    _, parts, sames, keys, sums = thing
    if not are_pairs_of(parts, 1, MOST_PARTS) or not are_pairs_of(sames, 0, MOST_SAMES):
        return False
    return are_pairs_of(keys, 0, MOST_KEYS) and are_pairs_of(sums, 1, MOST_SUMS)


def are_pairs_of(thing, least, most):
    """Whether the thing is a row of so many tuples of two things."""
    return is_row(thing, least, most) and all([is_tuple(part, 2) for part in thing])


def mean_program(shape, asks):
    """Whether what asks of this form mean keeps the rules of programs."""
    try:
        meant(shape, asks)
    except (BadBlock, BadProgram):
        return False
    return True


def meant(shape, asks):
    """The program that the asks mean: a block and a top statement for each one."""
    return Program(shape, [block_of(ask) for ask in asks], [statement_of(shape, ask) for ask in asks])


def block_of(ask):
    """The block that keeps what the ask asks for."""
    name, _, _, keys, sums = ask
    return (name, [key for key, _ in keys], [total for total, _ in sums])


def statement_of(shape, ask):
    """The top statement that does what the ask asks for."""
    name, parts, sames, keys, sums = ask
    statement = ("put", name, [term for _, term in keys], [products for _, products in sums])
    for left, right in reversed(sames):
        statement = ("same", left, right, (statement,))
    for v, source in reversed(parts):
        kind = "each" if fields_of_table(shape, source) == () else "scan"
        statement = (kind, v, source, (statement,))
    return statement


def check_asks(thing):
    """Raise BadAsks if the thing is no Asks."""
    if not isinstance(thing, Asks):
        raise BadAsks(thing)


def plain_program(asks):
    """The program that the asks mean."""
    check_asks(asks)
    return meant(asks.shape, asks.asks)


def answered(asks, store):
    """The list of the keys of what is asked, with their sums, in the order in which they are first met."""
    return run(plain_program(asks), store)


def answers(program, asks):
    """Whether the program gives on every store the list that is asked for."""
    check_program(program)
    return alike(program, plain_program(asks))
