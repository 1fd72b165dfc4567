"""Moves: small changes of a program that leave its list as it is on every store, or may leave it so."""

from firstmet.alikes import alike
from firstmet.checks import is_integer, is_name, is_tuple
from firstmet.errors import BadBlock, BadMove, BadName, BadProgram
from firstmet.nests import check_program
from firstmet.programs import Program

# The kinds of statements that can change places with one another.
LOOPS = ("scan", "run", "seek", "each", "rise")
# What the sums of a block are called that a hold makes, so that there are no more than these.
HELD_SUMS = ("s", "t", "u")


def body_of(statement):
    """The body of the statement, of a put one without statements."""
    return () if statement[0] == "put" else statement[-1]


def statements_in(body):
    """The list of all statements of the body, each one ahead of those in its own body."""
    found = []
    for statement in body:
        found.append(statement)
        found.extend(statements_in(body_of(statement)))
    return found


def paths_of(body, path):
    """The ascending list of the paths of all statements of the body, which is that of the statement with this path."""
    found = []
    for at, statement in enumerate(body):
        found.append((*path, at))
        found.extend(paths_of(body_of(statement), (*path, at)))
    return found


def statement_at(body, thing):
    """The statement whose path the thing, which may be anything, is; None if it is no path."""
    if not isinstance(thing, tuple) or not all([is_integer(at) for at in thing]):
        return None
    found = None
    for at in thing:
        if not 0 <= at < len(body):
            return None
        found = body[at]
        body = body_of(found)
    return found


def with_statement(body, path, statement):
    """The body with the statement in the place of the one with this path."""
    at = path[0]
    if len(path) > 1:
        outer = body[at]
        statement = (*outer[:-1], with_statement(outer[-1], path[1:], statement))
    return (*body[:at], statement, *body[at + 1:])


def terms_of(statement):
    """The list of the terms of the statement itself."""
    if statement[0] == "seek":
        return [statement[4]]
    if statement[0] == "same":
        return [statement[1], statement[2]]
    if statement[0] == "look":
        return list(statement[3])
    return list(statement[2]) if statement[0] == "put" else []


def names(term, v):
    """Whether the term is a field or key of this variable."""
    return isinstance(term, tuple) and term[1] == v


def has_term_of(statement, v):
    """Whether a term of the statement itself is a field or key of this variable."""
    return any([names(term, v) for term in terms_of(statement)])


def drawn_out(outer):
    """What comes where the same that is the whole body of the statement goes around it, None if that cannot be."""
    inner = body_of(outer)
    if outer[0] == "same" or len(inner) != 1 or inner[0][0] != "same" or has_term_of(inner[0], outer[1]):
        return None
    _, left, right, body = inner[0]
    return ("same", left, right, ((*outer[:-1], body),))


def turned(outer):
    """What comes where two loops, one the whole body of the other, change places, None if that cannot be."""
    inner = body_of(outer)
    if outer[0] not in LOOPS or len(inner) != 1 or inner[0][0] not in LOOPS or has_term_of(inner[0], outer[1]):
        return None
    return (*inner[0][:-1], ((*outer[:-1], inner[0][-1]),))


def sought(outer):
    """The seek that comes of a scan whose body is a same, None if that cannot be."""
    inner = body_of(outer)
    if outer[0] != "scan" or len(inner) != 1 or inner[0][0] != "same":
        return None
    _, v, table, _ = outer
    _, left, right, body = inner[0]
    if names(left, v) == names(right, v):
        return None
    place, term = (left, right) if names(left, v) else (right, left)
    return ("seek", v, table, place[2], term, body)


def scanned(seek):
    """The scan with a same that comes of a seek, None if it is none."""
    if seek[0] != "seek":
        return None
    _, v, table, field, term, body = seek
    return ("scan", v, table, (("same", ("of", v, field), term, body),))


def swapped(body, at):
    """The top statements where this one and the next one change places, None if there is no next one."""
    return None if at + 1 == len(body) else (*body[:at], body[at + 1], body[at], *body[at + 2:])


def fused_with_next(body, at):
    """The top statements where this one and the next one become one, None if that cannot be."""
    if at + 1 == len(body) or pass_kind(body, at) != pass_kind(body, at + 1):
        return None
    return (*body[:at], both_in_one(body[at], body[at + 1]), *body[at + 2:])


def pass_kind(body, at):
    """What the top statement has in common with those that can become one with it."""
    statement = body[at]
    if statement[0] in ("scan", "run"):
        return (statement[0], *statement[2:-1])
    return ("alone", at)


def both_in_one(first, second):
    """The one statement that does what two scans of a table, or runs of it by one field, do."""
    return (*first[:-1], (*first[-1], *called_so(second[-1], second[1], first[1])))


def called_so(thing, old, new):
    """The body, or whatever stands in it, with the new variable in the place of the old one."""
    if not isinstance(thing, tuple):
        return thing
    # No other tuple in a body begins with this word.
    if thing[:2] == ("of", old):
        return ("of", new, thing[2])
    return tuple([called_so(part, old, new) for part in thing])


def dropped(body, at):
    """The top statements without this one, None if there are no others."""
    return None if len(body) == 1 else (*body[:at], *body[at + 1:])


# What changes a statement, or what stands around it for an out, by the kinds of moves, in their order.
PATH_CHANGES = {"out": drawn_out, "turn": turned, "seek": sought, "scan": scanned}
# What changes the top statements.
TOP_CHANGES = {"swap": swapped, "fuse": fused_with_next, "drop": dropped}


def changed_at(body, kind, thing):
    """The body that comes of a move of this kind at the path that the thing is, None if it cannot be made."""
    if statement_at(body, thing) is None:
        return None
    path = thing[:-1] if kind == "out" else thing
    if path == ():
        return None
    change = PATH_CHANGES[kind]
    statement = change(statement_at(body, path))
    return None if statement is None else with_statement(body, path, statement)


def changed_top(body, kind, thing):
    """The body that comes of a move of this kind at the index that the thing is, None if it cannot be made."""
    if not is_integer(thing) or not 0 <= thing < len(body):
        return None
    change = TOP_CHANGES[kind]
    return change(body, thing)


def held_parts(program, thing, name):
    """The blocks and the body that come of a hold at the path that the thing is, None if it cannot be made."""
    seek = statement_at(program.body, thing)
    if seek is None or seek[0] != "seek" or len(thing) == 1:
        return None
    _, v, table, field, term, body = seek
    rows = rows_of_factors(body, v)
    if len(rows) > len(HELD_SUMS) or any([has_term_of(statement, v) for statement in statements_in(body)]):
        return None
    sums = HELD_SUMS[:len(rows)]
    adds = tuple([((1, row),) for row in rows])
    filling = ("scan", v, table, (("put", name, (("of", v, field),), adds),))
    looking = ("look", v, name, (term,), with_sums(body, v, dict(zip(rows, sums))))
    changed = with_statement(program.body, thing, looking)
    top = thing[0]
    blocks = (*program.blocks[:-1], (name, (field,), sums), program.blocks[-1])
    return (blocks, (*changed[:top], filling, *changed[top:]))


def rows_of_factors(body, v):
    """The ascending list of the unlike rows of factors of the variable that products in the body have."""
    puts = [statement for statement in statements_in(body) if statement[0] == "put"]
    products = [product for _, _, _, adds in puts for row in adds for product in row]
    return sorted(set([factors_of(product, v) for product in products]))


def factors_of(product, v):
    """The ascending tuple of the factors of the product that are of this variable."""
    return tuple(sorted([factor for factor in product[1] if factor[1] == v]))


def with_sums(body, v, sums):
    """The body with a sum in each product in the place of its factors of the variable."""
    changed = []
    for statement in body:
        if statement[0] == "put":
            _, block, terms, adds = statement
            inner = tuple([tuple([with_sum(product, v, sums) for product in row]) for row in adds])
            changed.append(("put", block, terms, inner))
        else:
            changed.append((*statement[:-1], with_sums(statement[-1], v, sums)))
    return tuple(changed)


def with_sum(product, v, sums):
    """The product with a sum, behind the other factors, in the place of those of the variable."""
    multiple, factors = product
    others = [factor for factor in factors if factor[1] != v]
    return (multiple, (*others, ("of", v, sums[factors_of(product, v)])))


def parts_behind(program, thing):
    """The blocks and the body that come of the move that the thing is, whether or not they keep the rules of programs.

    None if the thing, which may be anything, is no such move.
    """
    if is_tuple(thing, 3) and thing[0] == "hold":
        return held_parts(program, thing[1], thing[2])
    if not is_tuple(thing, 2) or not isinstance(thing[0], str):
        return None
    kind, place = thing
    body = None
    if kind in PATH_CHANGES:
        body = changed_at(program.body, kind, place)
    elif kind in TOP_CHANGES:
        body = changed_top(program.body, kind, place)
    return None if body is None else (program.blocks, body)


def moved(program, move):
    """The program that comes of the move."""
    check_program(program)
    parts = parts_behind(program, move)
    if parts is None:
        raise BadMove(move)
    blocks, body = parts
    try:
        return Program(program.shape, blocks, body)
    except (BadBlock, BadProgram):
        raise BadMove(move) from None


def moves_of(program, name):
    """The list of all moves that can be made, in the order of their kinds; each hold makes a block with this name."""
    check_program(program)
    if not is_name(name):
        raise BadName(name)
    paths = paths_of(program.body, ())
    moves = [(kind, path) for kind in PATH_CHANGES for path in paths]
    moves.extend([(kind, at) for kind in TOP_CHANGES for at, _ in enumerate(program.body)])
    moves.extend([("hold", path, name) for path in paths])
    return [move for move in moves if can_be_made(program, move)]


def can_be_made(program, move):
    """Whether a right program comes of the move."""
    try:
        moved(program, move)
    except BadMove:
        return False
    return True


def is_right(program, move):
    """Whether the program gives equal lists on every store ahead of the move and behind it."""
    return alike(program, moved(program, move))
