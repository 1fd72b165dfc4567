"""Programs, stores and pairs of programs, drawn by a random source that the caller seeds."""

from firstmet.errors import BadProgram
from firstmet.programs import Program
from firstmet.tables import Shape, Store

SHAPE = Shape((("t", ("a", "b")), ("u", ("c",)), ("w", ("d", "e", "f"))))
VALUES = (0, 1, 1, 2, 2, 3, -1)


def of(v, f):
    return ("of", v, f)


class Maker:
    """Draws one program; in a tame one no table is met twice on the way to a put."""

    def __init__(self, source, keys=1, sums=1, tame=False, givens=True, shape=SHAPE):
        self.source = source
        self.tame = tame
        self.givens = givens
        self.shape = shape
        self.answer = ("out", tuple("klm"[:keys]), tuple("xyz"[:sums]))
        self.ready = []
        # From each block that is ready to the tables that are met on the way to its put.
        self.tables_of = {}

    def program(self):
        for _ in range(200):
            self.ready = []
            self.tables_of = {}
            blocks = []
            body = []
            for at in range(self.source.choice((0, 0, 1, 1, 2))):
                block = (f"b{'pqr'[at]}", tuple("gh"[:self.source.choice((0, 1, 1, 2))]),
                         tuple("st"[:self.source.choice((1, 1, 2))]))
                blocks.append(block)
                body.append(self.statement(block, {}, (), 0))
                self.ready.append(block)
            for _ in range(self.source.choice((1, 1, 1, 2, 3))):
                body.append(self.statement(self.answer, {}, (), 0))
            try:
                return Program(self.shape, (*blocks, self.answer), tuple(body))
            except BadProgram:
                pass
        raise AssertionError("no program could be drawn")

    def statement(self, block, around, tables, deep):
        """A statement with a put of the block at its end; around tells fields and sums of each variable."""
        kinds = ["scan", "scan", "run", "seek", "same"] if deep else ["scan", "run"]
        if self.ready:
            kinds += ["each", "rise", "look"] if deep else ["each", "rise"]
        if deep > 1:
            kinds += ["put"] * (2 * deep)
        kind = self.source.choice(kinds) if deep < 7 else "put"
        free = [(name, fields) for name, fields in self.shape.tables if not self.tame or name not in tables]
        entries = len([v for v in around if around[v][1]])
        if kind in ("scan", "run", "seek") and free:
            return self.over_rows(kind, self.source.choice(free), block, around, tables, deep)
        found = [other for other in self.ready
                 if not self.tame or not set(self.tables_of[other[0]]) & set(tables)]
        if kind in ("each", "rise", "look") and found and entries < 2:
            return self.over_entries(kind, self.source.choice(found), block, around, tables, deep)
        if kind == "same":
            return ("same", self.term(around), self.term(around), (self.statement(block, around, tables, deep + 1),))
        return self.put(block, around, tables)

    def over_rows(self, kind, table, block, around, tables, deep):
        name, fields = table
        v = f"v{'abcdefgh'[deep]}"
        inner = (self.statement(block, {**around, v: (fields, ())}, (*tables, name), deep + 1),)
        if kind == "scan":
            return ("scan", v, name, inner)
        if kind == "run":
            return ("run", v, name, self.source.choice(fields), inner)
        return ("seek", v, name, self.source.choice(fields), self.term(around), inner)

    def over_entries(self, kind, found, block, around, tables, deep):
        name, keys, sums = found
        v = f"v{'abcdefgh'[deep]}"
        beside = (*tables, *self.tables_of[name])
        inner = (self.statement(block, {**around, v: (keys, sums)}, beside, deep + 1),)
        if kind == "rise" and keys:
            return ("rise", v, name, self.source.choice(keys), inner)
        if kind == "look":
            return ("look", v, name, tuple([self.term(around) for _ in keys]), inner)
        return ("each", v, name, inner)

    def places(self, around):
        return [of(v, field) for v in around for field in around[v][0]]

    def term(self, around):
        places = self.places(around)
        if not places or (self.givens and self.source.random() < 0.15):
            return self.source.choice(VALUES)
        return self.source.choice(places)

    def put(self, block, around, tables):
        name, keys, sums = block
        self.tables_of[name] = tables
        terms = tuple([self.term(around) for _ in keys])
        return ("put", name, terms, tuple([self.products(around) for _ in sums]))

    def products(self, around):
        return tuple([self.product(around) for _ in range(self.source.choice((0, 1, 1, 1, 2)))])

    def product(self, around):
        factors = [of(v, self.source.choice(around[v][1])) for v in around if around[v][1]]
        free = self.places(around) + [of(v, name) for v in around for name in around[v][1]]
        while free and len(factors) < 3 and self.source.random() < 0.4:
            factors.append(self.source.choice(free))
        self.source.shuffle(factors)
        return (self.source.choice((1, 1, 1, 2, -1, -3)), tuple(factors))


def program(source, **wanted):
    return Maker(source, **wanted).program()


def store(source, most=4, shape=SHAPE):
    rows = {}
    for name, fields in shape.tables:
        rows[name] = [tuple([source.choice(VALUES) for _ in fields]) for _ in range(source.randint(0, most))]
    return Store(shape, rows)


def changed(source, one):
    """A program that is the one with something little changed, or the one itself."""
    for _ in range(20):
        body = list(one.body)
        at = source.randrange(len(body))
        deed = source.choice(("swap", "double", "within", "within", "within"))
        if deed == "swap" and len(body) > 1:
            body[at - 1], body[at] = body[at], body[at - 1]
        elif deed == "double" and len(body) < 12:
            body.insert(at, body[at])
        else:
            body[at] = changed_statement(source, one.shape, body[at])
        try:
            return Program(one.shape, one.blocks, body)
        except BadProgram:
            pass
    return one


def changed_statement(source, shape, statement):
    if statement[0] == "put":
        return statement
    inner = statement[-1][0]
    if source.random() < 0.5:
        return statement[:-1] + ((changed_statement(source, shape, inner),),)
    deed = source.choice(("turn", "turn", "kind", "kind", "drop", "around"))
    if deed == "turn" and inner[0] != "put":
        return inner[:-1] + ((statement[:-1] + (inner[-1],),),)
    if deed == "kind" and statement[0] in ("scan", "run"):
        field = source.choice(shape.fields_of(statement[2]))
        if statement[0] == "run" and source.random() < 0.5:
            return ("scan", *statement[1:3], statement[-1])
        return ("run", *statement[1:3], field, statement[-1])
    if deed == "kind" and statement[0] == "seek":
        _, v, table, field, term, body = statement
        return ("scan", v, table, (("same", of(v, field), term, body),))
    if deed == "drop" and statement[0] == "same":
        return inner
    if deed == "around":
        name, fields = source.choice(shape.tables)
        return ("scan", "vz", name, (statement,))
    return statement
