"""Programs as text: a row for each table, block and statement, and one for the end of each body."""

from firstmet.checks import is_name
from firstmet.errors import BadText
from firstmet.nests import check_program
from firstmet.programs import Program
from firstmet.tables import Shape

DIGITS = "0123456789"
MOST_DIGITS = 12

# How many names, and then how many terms, stand behind the word of a statement; a look may have any number of terms.
FORMS = {"scan": (2, 0), "run": (3, 0), "seek": (3, 1), "each": (2, 0), "rise": (3, 0), "look": (2, 0), "same": (0, 2)}


def write_program(program):
    """The text of the program."""
    check_program(program)
    rows = table_rows(program.shape)
    for name, fields, sums in program.blocks:
        rows.append(" ".join(["block", name, *fields, ":", *sums]))
    for statement in program.body:
        rows.extend(statement_rows(statement))
    return "\n".join(rows)


def table_rows(shape):
    """The list of the rows of text for the tables."""
    return [" ".join(["table", name, *fields]) for name, fields in shape.tables]


def statement_rows(statement):
    """The list of the rows of text for the statement."""
    if statement[0] == "put":
        _, block, terms, adds = statement
        words = ["put", block, *[told_term(term) for term in terms], ":"]
        return [" ".join([*words, " ; ".join([told_adds(products) for products in adds])])]
    rows = [" ".join(words_of(statement))]
    for inner in statement[-1]:
        rows.extend(statement_rows(inner))
    return [*rows, "end"]


def words_of(statement):
    """The list of the words for a statement with a body, its body aside."""
    names, _ = FORMS[statement[0]]
    terms = statement[names + 1] if statement[0] == "look" else statement[names + 1:-1]
    return [*statement[:names + 1], *[told_term(term) for term in terms]]


def told_term(term):
    """The word for the term, or for the factor."""
    if isinstance(term, tuple):
        _, v, field = term
        return f"{v}.{field}"
    return str(term)


def told_adds(products):
    """The words for the products that are added to one sum."""
    if len(products) == 0:
        return "none"
    return " + ".join([told_product(product) for product in products])


def told_product(product):
    """The words for the product."""
    multiple, factors = product
    return " * ".join([str(multiple), *[told_term(factor) for factor in factors]])


class ProgramRows:
    """Reads the rows of a program's text; keeps the tables, the blocks and the top statements."""

    def __init__(self):
        self.tables = []
        self.blocks = []
        # The statements of the top and of each body that is open, and what stands ahead of these bodies.
        self.bodies = [[]]
        self.heads = []

    def takes(self, words):
        """Read a row of these words; whether they are so written and can stand here."""
        if words[0] == "table":
            return self.takes_table(words)
        if words[0] == "block":
            return self.takes_block(words)
        if words == ["end"]:
            return self.takes_end()
        if words[0] == "put":
            return self.takes_put(words)
        head = read_head(words)
        if head is None:
            return False
        self.heads.append(head)
        self.bodies.append([])
        return True

    def has_statements(self):
        """Whether a statement has been read."""
        return self.bodies != [[]]

    def takes_table(self, words):
        """Read the row of a table."""
        table = read_table(words)
        if table is None or self.blocks != [] or self.has_statements():
            return False
        self.tables.append(table)
        return True

    def takes_block(self, words):
        """Read the row of a block."""
        block = read_block(words)
        if block is None or self.has_statements():
            return False
        self.blocks.append(block)
        return True

    def takes_put(self, words):
        """Read the row of a put."""
        statement = read_put(words)
        if statement is None:
            return False
        self.bodies[-1].append(statement)
        return True

    def takes_end(self):
        """Read the end of a body."""
        if self.heads == []:
            return False
        statement = (*self.heads.pop(), tuple(self.bodies.pop()))
        self.bodies[-1].append(statement)
        return True


def read_program(text):
    """The program with this text."""
    rows = rows_of_text(text)
    reader = ProgramRows()
    for at, row in enumerate(rows):
        if not reader.takes(row.split(" ")):
            raise BadText(at + 1)
    if reader.tables == [] or reader.heads != []:
        raise BadText(len(rows) + 1)
    return Program(Shape(reader.tables), reader.blocks, reader.bodies[0])


def rows_of_text(text):
    """The list of the rows of the text."""
    if not isinstance(text, str):
        raise BadText(-1)
    return text.split("\n")


def are_words(words):
    """Whether all words are names."""
    return all([is_name(word) for word in words])


def read_table(words):
    """The table that the words of its row tell, None if they are not so written."""
    if len(words) < 3 or not are_words(words[1:]):
        return None
    return (words[1], tuple(words[2:]))


def read_block(words):
    """The block that the words tell, None if they are not so written."""
    ahead, behind = parted_once(words)
    if len(ahead) < 2 or behind == [] or not are_words(ahead[1:]) or not are_words(behind):
        return None
    return (ahead[1], tuple(ahead[2:]), tuple(behind))


def parted_once(words):
    """The words ahead of the first colon, and those behind it; none behind it if there is no colon."""
    if ":" not in words:
        return (words, [])
    at = words.index(":")
    return (words[:at], words[at + 1:])


def parted(words, sign):
    """The list of the lists of words between which the sign stands."""
    parts = [[]]
    for word in words:
        if word == sign:
            parts.append([])
        else:
            parts[-1].append(word)
    return parts


def read_head(words):
    """The statement with a body that the words tell, without its body, None if they are not so written."""
    if words[0] not in FORMS:
        return None
    many, more = FORMS[words[0]]
    names = words[1:many + 1]
    terms = read_terms(words[many + 1:])
    if len(names) < many or not are_words(names) or terms is None:
        return None
    if words[0] == "look":
        return ("look", *names, terms)
    return (words[0], *names, *terms) if len(terms) == more else None


def read_put(words):
    """The put that the words tell, None if they are not so written."""
    ahead, behind = parted_once(words)
    terms = read_terms(ahead[2:])
    adds = [read_adds(part) for part in parted(behind, ";")]
    if len(ahead) < 2 or not is_name(ahead[1]) or terms is None or None in adds:
        return None
    return ("put", ahead[1], terms, tuple(adds))


def read_terms(words):
    """The tuple of the terms that the words are, None if they are not so written."""
    terms = tuple([read_term(word) for word in words])
    return None if None in terms else terms


def read_term(word):
    """The term that the word is, None if it is not so written."""
    number = read_integer(word)
    return read_place(word) if number is None else number


def read_place(word):
    """The field, key or sum of a variable that the word is, None if it is not so written."""
    parts = word.split(".")
    return ("of", *parts) if len(parts) == 2 and are_words(parts) else None


def read_integer(word):
    """The integer that the word is, None if it is not so written."""
    digits = word[1:] if word.startswith("-") else word
    if not 1 <= len(digits) <= MOST_DIGITS or not all([sign in DIGITS for sign in digits]):
        return None
    # This is what is wrong of a needless 0 and of -0.
    return int(word) if str(int(word)) == word else None


def read_adds(words):
    """The tuple of the products that the words tell, None if they are not so written."""
    if words == ["none"]:
        return ()
    products = tuple([read_product(part) for part in parted(words, "+")])
    return None if None in products else products


def read_product(words):
    """The product that the words tell, None if they are not so written."""
    first, *others = parted(words, "*")
    factors = tuple([read_place(part[0]) if len(part) == 1 else None for part in others])
    multiple = read_integer(first[0]) if len(first) == 1 else None
    return None if multiple is None or None in factors else (multiple, factors)
