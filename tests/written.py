"""How texts are to be written, read off the document row by row, and texts with something spoiled."""

import re

NAME = "[a-z]{1,8}"
INTEGER = "(?:0|-?[1-9][0-9]{0,11})"
PLACE = rf"{NAME}\.{NAME}"
TERM = f"(?:{INTEGER}|{PLACE})"
PRODUCT = rf"{INTEGER}(?: \* {PLACE})*"
ADDS = rf"(?:none|{PRODUCT}(?: \+ {PRODUCT})*)"

TABLE = f"table {NAME}( {NAME})+"
BLOCK = f"block {NAME}( {NAME})* :( {NAME})+"
PUT = f"put {NAME}( {TERM})* : {ADDS}( ; {ADDS})*"
HEADS = [f"scan {NAME} {NAME}", f"run {NAME} {NAME} {NAME}", f"seek {NAME} {NAME} {NAME} {TERM}",
         f"each {NAME} {NAME}", f"rise {NAME} {NAME} {NAME}", f"look {NAME} {NAME}( {TERM})*", f"same {TERM} {TERM}"]
ASK_ROWS = {"from": f"from {NAME} {NAME}", "same": f"same {TERM} {TERM}", "key": f"key {NAME} {TERM}",
            "sum": f"sum {NAME} {ADDS}"}


def is_written(row, *forms):
    return any([re.fullmatch(form, row) for form in forms])


def first_wrong_of_program(text):
    """The number of the first wrong row, one more than there are rows if something is missing, None if all is right."""
    rows = text.split("\n")
    stage = 0
    still_open = 0
    for number, row in enumerate(rows, 1):
        if is_written(row, TABLE):
            right = stage == 0
        elif is_written(row, BLOCK):
            right = stage <= 1
            stage = max(stage, 1)
        elif row == "end":
            right = still_open > 0
            still_open -= 1
        else:
            right = is_written(row, PUT, *HEADS)
            stage = 2
            still_open += not row.startswith("put ")
        if not right:
            return number
    return len(rows) + 1 if still_open or not rows[0].startswith("table ") else None


def first_wrong_of_asks(text):
    """The same for a text of asks."""
    rows = text.split("\n")
    kinds = []
    for number, row in enumerate(rows, 1):
        kind = row.split(" ")[0]
        asked = kinds[len(kinds) - kinds[::-1].index("ask"):] if "ask" in kinds else None
        if kind == "table":
            right = is_written(row, TABLE) and asked is None
        elif kind == "ask":
            right = is_written(row, f"ask {NAME}") and (asked is None or "sum" in asked)
        else:
            order = list(ASK_ROWS)
            right = kind in order and is_written(row, ASK_ROWS[kind]) and asked is not None
            right = right and ("from" in asked or kind == "from")
            right = right and all([order.index(other) <= order.index(kind) for other in asked])
        if not right:
            return number
        kinds.append(kind)
    whole = "ask" not in kinds or kinds[-1] == "sum"
    return None if whole and kinds[0] == "table" else len(rows) + 1


def spoiled(source, text):
    """The text with something done to it that often makes it wrong."""
    rows = text.split("\n")
    at = source.randrange(len(rows))
    deed = source.choice(("drop", "double", "swap", "word", "word", "word", "sign", "sign", "cut", "insert"))
    if deed == "drop":
        del rows[at]
    elif deed == "double":
        rows.insert(at, rows[at])
    elif deed == "swap":
        other = source.randrange(len(rows))
        rows[at], rows[other] = rows[other], rows[at]
    elif deed == "cut":
        rows = rows[:at]
    elif deed == "insert":
        rows.insert(at, source.choice(("", " ", "end", "table t a", "block b : s", "put out : none", "scan v t",
                                       "ask a", "from v t", "key k 1", "sum s none", "same 1 1", "sum s 1", "none")))
    elif deed == "word":
        words = rows[at].split(" ")
        place = source.randrange(len(words))
        word = source.choice(("", "a", "abcdefgh", "abcdefghi", "A", "a1", "0", "-0", "00", "-1", "+1", "1.5", "a.b",
                              "a.b.c", ".", "a.", ".b", "1.b", "a.1", "999999999999", "1000000000000", "-999999999999",
                              "01", ":", ";", "+", "*", "none", "end", "\t", "--1", "1-", "a:", "-", "table", "put"))
        if source.random() < 0.3:
            words.insert(place, word)
        elif source.random() < 0.3:
            del words[place]
        else:
            words[place] = word
        rows[at] = " ".join(words)
    else:
        place = source.randrange(len(rows[at]) + 1)
        sign = source.choice((" ", "  ", "", "\t", "\n", ".", "-", "0", ":", "a", "~", "+", "*"))
        rows[at] = rows[at][:place] + sign + rows[at][place + source.choice((0, 1)):]
    return "\n".join(rows)
