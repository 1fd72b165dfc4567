"""Programs: loops over the tables of a shape that keep sums under keys in blocks."""

from firstmet.checks import are_names, as_tuples, is_integer, is_name, is_row, is_tuple, is_value
from firstmet.errors import BadBlock, BadProgram, BadStore
from firstmet.tables import Shape

MOST_BLOCKS = 6
MOST_KEYS = 3
MOST_SUMS = 3
MOST_FACTORS = 3
MOST_PRODUCTS = 4
LARGEST_MULTIPLE = 1000
MOST_TOP_STATEMENTS = 12
MOST_IN_A_BODY = 8
DEEPEST = 8
MOST_STATEMENTS = 40

# How many parts a statement of each kind has, its kind and its body counted.
PARTS = {"scan": 4, "run": 5, "seek": 6, "each": 4, "rise": 5, "look": 5, "same": 4, "put": 4}


class Program:
    """A program that keeps all rules; its last block is its answer."""

    def __init__(self, shape, blocks, body):
        if not isinstance(shape, Shape):
            raise BadStore(shape)
        check_blocks(shape, blocks)
        if not is_row(body, 1, MOST_TOP_STATEMENTS):
            raise BadProgram(())
        self.shape = shape
        self.blocks = as_tuples(blocks)
        reader = Reader(shape, self.blocks)
        reader.read_body(body, (), {})
        self.body = as_tuples(body)

    def __eq__(self, other):
        if not isinstance(other, Program):
            return False
        return self.shape == other.shape and self.blocks == other.blocks and self.body == other.body


class Reader:
    """Reads statements from the front, and keeps what the rules for later statements ask of earlier ones.

    What stands AROUND a statement is a dict from each variable there to a tuple of its fields (the keys, if it
    stands for an entry) and its sums (none, if it stands for a row).
    """

    def __init__(self, shape, blocks):
        self.shape = shape
        self.blocks = {name: (fields, sums) for name, fields, sums in blocks}
        self.many = 0
        # From each block to the indexes of the top statements that have put it so far.
        self.tops = {name: [] for name in self.blocks}
        # The blocks that an each, rise or look has named so far.
        self.asked = {}

    def read_body(self, body, path, around):
        """Read the statements of the body of the statement with this path; raise BadProgram at the first wrong one."""
        for at, statement in enumerate(body):
            self.read_statement(statement, (*path, at), around)

    def read_statement(self, statement, path, around):
        """Read a statement and then its body."""
        self.many += 1
        if self.many > MOST_STATEMENTS or len(path) > DEEPEST or not self.fits(statement, path[0], around):
            raise BadProgram(path)
        self.note(statement, path[0])
        if statement[0] != "put":
            self.read_body(statement[-1], path, self.within(statement, around))

    def fits(self, statement, top, around):
        """Whether the statement, without what is in its body, keeps all rules here."""
        if not has_parts(statement):
            return False
        kind = statement[0]
        if kind == "put":
            return self.put_fits(statement, top, around)
        if not is_row(statement[-1], 1, MOST_IN_A_BODY):
            return False
        if kind == "same":
            return is_term(statement[1], around) and is_term(statement[2], around)
        if not is_name(statement[1]) or statement[1] in around:
            return False
        if goes_over_entries(kind):
            return self.entries_fit(statement, top, around)
        return self.rows_fit(statement, around)

    def rows_fit(self, statement, around):
        """Whether a scan, run or seek names a table and a field that are there, and a term that can stand here."""
        fields = fields_of_table(self.shape, statement[2])
        if statement[0] == "scan":
            return fields != ()
        if statement[3] not in fields:
            return False
        return statement[0] == "run" or is_term(statement[4], around)

    def entries_fit(self, statement, top, around):
        """Whether an each, rise or look names a block that can be read here, and its key or the terms for its keys."""
        block = statement[2]
        if not self.has_block(block) or len(self.tops[block]) != 1 or self.tops[block][0] == top:
            return False
        fields = self.blocks[block][0]
        if statement[0] == "rise":
            return statement[3] in fields
        return statement[0] == "each" or are_terms(statement[3], len(fields), around)

    def put_fits(self, statement, top, around):
        """Whether a put names a block that can be put here, and has its keys and products."""
        _, block, terms, adds = statement
        if not self.has_block(block) or top in self.tops[block] or block in self.asked:
            return False
        fields, sums = self.blocks[block]
        if not are_terms(terms, len(fields), around) or not is_row(adds, len(sums), len(sums)):
            return False
        return all([are_products(products, around) for products in adds])

    def has_block(self, thing):
        """Whether the thing, which may be anything, is the name of a block."""
        return is_name(thing) and thing in self.blocks

    def note(self, statement, top):
        """Keep what a right statement does, for the rules of later ones."""
        if statement[0] == "put":
            self.tops[statement[1]].append(top)
        elif goes_over_entries(statement[0]):
            self.asked[statement[2]] = True

    def within(self, statement, around):
        """What stands around the body of a right statement around which this stands."""
        if statement[0] == "same":
            return around
        inner = dict(around)
        if goes_over_entries(statement[0]):
            inner[statement[1]] = self.blocks[statement[2]]
        else:
            inner[statement[1]] = (self.shape.fields_of(statement[2]), ())
        return inner


def check_blocks(shape, blocks):
    """Raise BadBlock if these are no blocks of a program with this shape."""
    if not is_row(blocks, 1, MOST_BLOCKS):
        raise BadBlock(-1)
    names = [table for table, _ in shape.tables]
    for at, block in enumerate(blocks):
        if not is_block(block) or block[0] in names:
            raise BadBlock(at)
        names.append(block[0])


def is_block(thing):
    """Whether the thing is a tuple of a name, keys and sums."""
    if not is_tuple(thing, 3) or not is_name(thing[0]):
        return False
    _, fields, sums = thing
    if not are_names(fields, 0, MOST_KEYS) or not are_names(sums, 1, MOST_SUMS):
        return False
    return are_names([*fields, *sums], 1, MOST_KEYS + MOST_SUMS)


def has_parts(thing):
    """Whether the thing is a tuple that begins with the kind of a statement and has as many parts as this kind."""
    if not isinstance(thing, tuple) or thing == () or not isinstance(thing[0], str):
        return False
    return thing[0] in PARTS and len(thing) == PARTS[thing[0]]


def goes_over_entries(kind):
    """Whether the variable of a statement of this kind stands for entries of a block."""
    return kind in ("each", "rise", "look")


def fields_of_table(shape, thing):
    """The fields of the table with this name, none if the thing, which may be anything, names no table."""
    for table, fields in shape.tables:
        if table == thing:
            return fields
    return ()


def is_term(thing, around):
    """Whether the thing is a value, or a field or key of a variable around."""
    if not is_place(thing, around):
        return is_value(thing)
    return thing[2] in around[thing[1]][0]


def are_terms(thing, many, around):
    """Whether the thing is a row of just so many terms."""
    return is_row(thing, many, many) and all([is_term(term, around) for term in thing])


def is_place(thing, around):
    """Whether the thing is ("of", v, f) for a variable around and any of its fields, keys and sums."""
    if not is_tuple(thing, 3) or thing[0] != "of" or not is_name(thing[1]) or thing[1] not in around:
        return False
    fields, sums = around[thing[1]]
    return thing[2] in fields or thing[2] in sums


def are_products(thing, around):
    """Whether the thing is a row of products that a put may add here to one sum."""
    return is_row(thing, 0, MOST_PRODUCTS) and all([is_product(product, around) for product in thing])


def is_product(thing, around):
    """Whether the thing is a product with a sum of each entry around."""
    if not is_tuple(thing, 2) or not is_multiple(thing[0]) or not is_row(thing[1], 0, MOST_FACTORS):
        return False
    if not all([is_place(factor, around) for factor in thing[1]]):
        return False
    entries = [v for v in around if around[v][1] != ()]
    return all([has_sum_of(thing[1], v, around[v][1]) for v in entries])


def is_multiple(thing):
    """Whether the thing can be what a product is multiplied by."""
    return is_integer(thing) and thing != 0 and -LARGEST_MULTIPLE <= thing <= LARGEST_MULTIPLE


def has_sum_of(factors, v, sums):
    """Whether one of the factors is one of these sums of the variable."""
    return any([factor[1] == v and factor[2] in sums for factor in factors])
