"""Running: what the statements of a program do on a store, turn by turn."""

from firstmet.errors import BadProgram, BadStore, TooLong
from firstmet.programs import Program
from firstmet.tables import Store

MOST_TURNS = 20000


class Run:
    """A run of a program on a store, with all that can be told of it.

    What a variable stands for is a dict from names to values: the fields of a row, the keys and sums of an entry.
    """

    def __init__(self, program, store):
        self.data = store
        self.blocks = {name: (fields, sums) for name, fields, sums in program.blocks}
        # From each block to a dict from its keys, in the order in which they were first put, to the lists of sums.
        self.entries = {name: {} for name in self.blocks}
        self.many_turns = 0
        self.puts = []
        self._around = {}
        # What is gone through again and again is made once. A block may be kept so, too: all its puts are done
        # before it is read.
        self._things = {}
        self._ascending = {}
        self._with_value = {}
        self.do_all(program.body)

    def do_all(self, body):
        """Do the statements one after the other."""
        for statement in body:
            self.do(statement)

    def do(self, statement):
        """Do one statement for what the variables stand for now."""
        if statement[0] == "put":
            self.put(statement)
        elif statement[0] == "same":
            if self.value_of(statement[1]) == self.value_of(statement[2]):
                self.do_all(statement[3])
        else:
            for thing in self.met(statement):
                self.count_turn()
                self._around[statement[1]] = thing
                self.do_all(statement[-1])

    def count_turn(self):
        """Count one more turn, if it may be done."""
        if self.many_turns == MOST_TURNS:
            raise TooLong()
        self.many_turns += 1

    def put(self, statement):
        """Put the key, and add the products to its sums."""
        _, block, terms, adds = statement
        key = self.key_of(terms)
        self.puts.append((block, key))
        sums = self.entries[block].setdefault(key, [0] * len(adds))
        for at, products in enumerate(adds):
            sums[at] += sum([self.worth(product) for product in products])

    def worth(self, product):
        """What the product comes to."""
        worth, factors = product
        for _, v, field in factors:
            worth *= self._around[v][field]
        return worth

    def value_of(self, term):
        """The value of the term."""
        if isinstance(term, tuple):
            _, v, field = term
            return self._around[v][field]
        return term

    def key_of(self, terms):
        """The key that the terms make."""
        return tuple([self.value_of(term) for term in terms])

    def met(self, statement):
        """The list of the rows or entries that the statement hands to its body, in order."""
        kind, _, name = statement[:3]
        if kind in ("scan", "each"):
            return self.things(name)
        if kind in ("run", "rise"):
            return self.ascending(name, statement[3])
        if kind == "seek":
            return self.with_value(name, statement[3], self.value_of(statement[4]))
        key = self.key_of(statement[3])
        return [self.entry(name, key)] if key in self.entries[name] else []

    def things(self, name):
        """All rows of the table, or all entries of the block, with this name."""
        if name not in self._things:
            self._things[name] = self.made_things(name)
        return self._things[name]

    def made_things(self, name):
        """The same, made for the first time."""
        if name in self.entries:
            return [self.entry(name, key) for key in self.entries[name]]
        fields = self.data.shape.fields_of(name)
        return [dict(zip(fields, row)) for row in self.data.rows_of(name)]

    def entry(self, block, key):
        """The entry with this key, which is in the block."""
        fields, sums = self.blocks[block]
        return dict(zip([*fields, *sums], [*key, *self.entries[block][key]]))

    def ascending(self, name, field):
        """The rows or entries by the values of the field or key, those with the same value in order."""
        if (name, field) not in self._ascending:
            things = self.things(name)
            places = sorted([(thing[field], at) for at, thing in enumerate(things)])
            self._ascending[(name, field)] = [things[at] for _, at in places]
        return self._ascending[(name, field)]

    def with_value(self, table, field, value):
        """The rows whose field has this value, in order."""
        if (table, field) not in self._with_value:
            found = {}
            for row in self.things(table):
                found.setdefault(row[field], []).append(row)
            self._with_value[(table, field)] = found
        return self._with_value[(table, field)].get(value, [])

    def told(self, block):
        """The list of the keys of the block with their sums."""
        entries = self.entries[block]
        return [(key, tuple(entries[key])) for key in entries]


def run(program, store):
    """The list of the keys of the answer with their sums, in the order in which the keys were first put."""
    done = whole_run(program, store)
    answer, _, _ = program.blocks[-1]
    return done.told(answer)


def turns(program, store):
    """How many rows and entries are handed to bodies."""
    return whole_run(program, store).many_turns


def held(program, store):
    """The dict from the name of each block to the list of its keys with their sums."""
    done = whole_run(program, store)
    return {name: done.told(name) for name, _, _ in program.blocks}


def trace(program, store):
    """The list of the blocks and keys of all puts, in the order of time."""
    return whole_run(program, store).puts


def whole_run(program, store):
    """The run of the program, once it is known that both arguments are right."""
    check_run(program, store)
    return Run(program, store)


def check_run(program, store):
    """Raise an error if this is no program, or no store of its shape."""
    if not isinstance(program, Program):
        raise BadProgram(program)
    if not isinstance(store, Store) or store.shape != program.shape:
        raise BadStore(store)
