"""Programs whose bodies have several statements, drawn by a random source that the caller seeds."""

from chance import SHAPE, VALUES
from firstmet.errors import BadProgram
from firstmet.programs import Program


class Stuck(Exception):
    """Nothing is left that could be put."""


class Maker:
    """Draws the top statements one after the other; in a tame program no table is met twice on the way to a put."""

    def __init__(self, source, tops, tame, givens, shape):
        self.source = source
        self.tops = tops
        self.tame = tame
        self.givens = givens
        self.shape = shape
        names = ["ha", "hb", "hc"][:source.choice((0, 1, 1, 2, 3))]
        self.blocks = [(name, tuple("gh"[:source.choice((0, 1, 1, 2))]), tuple("st"[:source.choice((1, 1, 2))]))
                       for name in names]
        self.blocks.append(("out", tuple("kl"[:source.choice((0, 1, 1, 1, 2))]), tuple("xy"[:source.choice((1, 2))])))
        self.parts = {name: (keys, sums) for name, keys, sums in self.blocks}
        self.puts = {name: [] for name in self.parts}
        self.read = set()
        self.tables = {}
        # In some programs many top statements go over the same rows and put blocks of their own.
        self.spread = source.random() < 0.4
        self.head = None

    def program(self):
        body = tuple([self.statement(at, {}, (), 1) for at in range(self.tops)])
        return Program(self.shape, self.blocks, body)

    def body(self, top, around, tables, deep):
        many = self.source.choice((1, 1, 1, 1, 2)) if deep < 6 else 1
        return tuple([self.statement(top, around, tables, deep) for _ in range(many)])

    def statement(self, top, around, tables, deep):
        kinds = ["scan", "scan", "run", "seek", "each", "rise", "look"] + ["same", "put", "put"] * (deep > 1)
        if deep > 3:
            kinds += ["put"] * 6
        kind = self.source.choice(kinds) if deep < 8 else "put"
        free = [name for name, _ in self.shape.tables if not self.tame or name not in tables]
        read = [name for name in self.parts if self.may_read(name, top, tables)]
        entries = [v for v in around if around[v][1]]
        if kind in ("scan", "run", "seek") and free:
            return self.over_rows(kind, self.source.choice(free), top, around, tables, deep)
        if kind in ("each", "rise", "look") and read and len(entries) < 3:
            return self.over_entries(kind, self.source.choice(read), top, around, tables, deep)
        if kind == "same":
            return ("same", self.term(around), self.term(around), self.body(top, around, tables, deep + 1))
        return self.put(top, around, tables)

    def may_read(self, name, top, tables):
        return (name != "out" and len(self.puts[name]) == 1 and self.puts[name][0] != top
                and not (self.tame and set(self.tables[name]) & set(tables)))

    def over_rows(self, kind, table, top, around, tables, deep):
        fields = self.shape.fields_of(table)
        if not around and self.spread and self.head is not None and self.source.random() < 0.7:
            kind, table, field = self.head
            fields = self.shape.fields_of(table)
        else:
            field = self.source.choice(fields)
        if not around:
            self.head = (kind, table, field)
        v = self.source.choice([v for v in ("va", "vb", "vc", "vd", "ve", "vf", "vg", "vh") if v not in around][:2])
        head = {"scan": ("scan", v, table), "run": ("run", v, table, field),
                "seek": ("seek", v, table, field, self.term(around))}[kind]
        return (*head, self.body(top, {**around, v: (fields, ())}, (*tables, table), deep + 1))

    def over_entries(self, kind, block, top, around, tables, deep):
        keys, sums = self.parts[block]
        self.read.add(block)
        v = self.source.choice([v for v in ("va", "vb", "vc", "vd", "ve", "vf", "vg", "vh") if v not in around][:2])
        if kind == "rise" and keys:
            head = ("rise", v, block, self.source.choice(keys))
        elif kind == "look":
            head = ("look", v, block, tuple([self.term(around) for _ in keys]))
        else:
            head = ("each", v, block)
        beside = (*tables, *self.tables[block])
        return (*head, self.body(top, {**around, v: (keys, sums)}, beside, deep + 1))

    def term(self, around):
        places = [("of", v, field) for v in around for field in around[v][0]]
        if not places or (self.givens and self.source.random() < 0.15):
            return self.source.choice(VALUES)
        return self.source.choice(places)

    def put(self, top, around, tables):
        free = [name for name in self.parts if top not in self.puts[name] and name not in self.read]
        if not free:
            raise Stuck
        unput = [name for name in free if not self.puts[name]]
        if self.spread and unput:
            name = self.source.choice(unput)
        else:
            name = self.source.choice([*free, *[name for name in free if name == "out"] * 2])
        keys, sums = self.parts[name]
        self.puts[name].append(top)
        self.tables[name] = tables
        terms = tuple([self.term(around) for _ in keys])
        many = (0, 1, 1, 1, 2)
        return ("put", name, terms,
                tuple([tuple([self.product(around) for _ in range(self.source.choice(many))]) for _ in sums]))

    def product(self, around):
        factors = [("of", v, self.source.choice(around[v][1])) for v in around if around[v][1]]
        free = [("of", v, name) for v in around for name in around[v][0] + around[v][1]]
        while free and len(factors) < 3 and self.source.random() < 0.5:
            factors.append(self.source.choice(free))
        self.source.shuffle(factors)
        return (self.source.choice((1, 1, 1, 2, -1, -3)), tuple(factors))


def program(source, tops=(1, 1, 2, 2, 3, 4), tame=False, givens=True, shape=SHAPE):
    while True:
        try:
            return Maker(source, source.choice(tops), tame, givens, shape).program()
        except (Stuck, BadProgram):
            # Also a forty-first statement.
            pass
