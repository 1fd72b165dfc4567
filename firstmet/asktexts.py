"""Asks as text: a row for each table and ask, and one for each part, same, key and sum of an ask."""

from firstmet.asks import Asks, check_asks
from firstmet.checks import is_name
from firstmet.errors import BadText
from firstmet.tables import Shape
from firstmet.texts import are_words, read_adds, read_table, read_term, read_terms, rows_of_text, table_rows
from firstmet.texts import told_adds, told_term

# The rows of an ask, in the order in which they stand.
KINDS = ("from", "same", "key", "sum")


def write_asks(asks):
    """The text of the asks."""
    check_asks(asks)
    rows = table_rows(asks.shape)
    for name, parts, sames, keys, sums in asks.asks:
        rows.append(f"ask {name}")
        rows.extend([f"from {v} {source}" for v, source in parts])
        rows.extend([f"same {told_term(left)} {told_term(right)}" for left, right in sames])
        rows.extend([f"key {key} {told_term(term)}" for key, term in keys])
        rows.extend([f"sum {total} {told_adds(products)}" for total, products in sums])
    return "\n".join(rows)


class AskRows:
    """Reads the rows of the text of asks; keeps the tables and, for each ask, its name and what its rows tell.

    What the rows of an ask tell is a dict from the kinds of rows to lists.
    """

    def __init__(self):
        self.tables = []
        self.names = []
        self.parts = []

    def takes(self, words):
        """Read a row of these words; whether they are so written and can stand here."""
        if words[0] == "table":
            return self.takes_table(words)
        if words[0] == "ask":
            return self.takes_ask(words)
        part = read_part(words)
        if part is None or not self.has_room_for(words[0]):
            return False
        self.parts[-1][words[0]].append(part)
        return True

    def takes_table(self, words):
        """Read the row of a table."""
        table = read_table(words)
        if table is None or self.names != []:
            return False
        self.tables.append(table)
        return True

    def takes_ask(self, words):
        """Read the first row of an ask."""
        if len(words) != 2 or not is_name(words[1]) or not self.is_whole():
            return False
        self.names.append(words[1])
        self.parts.append({kind: [] for kind in KINDS})
        return True

    def is_whole(self):
        """Whether the last ask, if there is one, has all that it needs."""
        # A sum can only stand behind a from.
        return self.parts == [] or self.parts[-1]["sum"] != []

    def has_room_for(self, kind):
        """Whether a row of this kind can stand here."""
        if self.parts == [] or (kind != "from" and self.parts[-1]["from"] == []):
            return False
        return all([self.parts[-1][later] == [] for later in KINDS[KINDS.index(kind) + 1:]])

    def all_asks(self):
        """The list of the asks that have been read."""
        return [(name, parts["from"], parts["same"], parts["key"], parts["sum"])
                for name, parts in zip(self.names, self.parts)]


def read_asks(text):
    """The asks with this text."""
    rows = rows_of_text(text)
    reader = AskRows()
    for at, row in enumerate(rows):
        if not reader.takes(row.split(" ")):
            raise BadText(at + 1)
    if reader.tables == [] or not reader.is_whole():
        raise BadText(len(rows) + 1)
    return Asks(Shape(reader.tables), reader.all_asks())


def read_part(words):
    """What a row of an ask tells, None if it is not so written."""
    kind = words[0]
    if kind == "sum":
        return read_sum(words)
    if len(words) != 3:
        return None
    if kind == "from":
        return tuple(words[1:]) if are_words(words[1:]) else None
    if kind == "same":
        return read_terms(words[1:])
    if kind == "key":
        return read_key(words)
    return None


def read_key(words):
    """The name and the term of a key, None if they are not so written."""
    _, name, word = words
    term = read_term(word)
    return (name, term) if is_name(name) and term is not None else None


def read_sum(words):
    """The name and the products of a sum, None if they are not so written."""
    products = read_adds(words[2:])
    return (words[1], products) if len(words) > 2 and is_name(words[1]) and products is not None else None
