"""Reports: the steps, each with its paper, by which a program is made quicker on a store."""

from firstmet.alikes import alike, alike_paper, is_alike_paper
from firstmet.checks import LETTERS, LONGEST_NAME, is_name, is_tuple
from firstmet.errors import BadMove, BadName, NotPlain, TooLong, TooMany
from firstmet.moves import moved, moves_of
from firstmet.nests import check_program
from firstmet.running import check_run, turns

MOST_STEPS = 8


def quicker(program, store, name):
    """The list of the steps, tuples of a move and an alike paper, by which the program takes fewer turns."""
    check_run(program, store)
    # Each step makes a longer name of this one.
    if not is_name(name) or len(name) == LONGEST_NAME:
        raise BadName(name)
    # Whatever it says of a program and itself, it may have an error to tell.
    alike(program, program)
    most = turns(program, store)
    steps = []
    while len(steps) < MOST_STEPS:
        step = best_step(program, store, most, name + LETTERS[len(steps)])
        if step is None:
            return steps
        steps.append(step)
        program = moved(program, step[0])
        most = turns(program, store)
    return steps


def best_step(program, store, most, name):
    """The right move that leaves the fewest turns on the store, with its paper; None if none leaves fewer than most."""
    moves = moves_of(program, name)
    lower = []
    for at, move in enumerate(moves):
        many = turns_or_none(moved(program, move), store)
        if many is not None and many < most:
            lower.append((many, at))
    # Papers are dearer than turns: the first one that is found here is enough.
    for _, at in sorted(lower):
        paper = paper_or_none(program, moved(program, moves[at]))
        if paper is not None:
            return (moves[at], paper)
    return None


def turns_or_none(program, store):
    """How many turns the program takes on the store, None if they are too many."""
    try:
        return turns(program, store)
    except TooLong:
        return None


def paper_or_none(one, other):
    """An alike paper of the two programs, None if there is none or it cannot be asked for."""
    try:
        return alike_paper(one, other)
    except (NotPlain, TooMany):
        return None


def is_report(one, other, thing):
    """Whether the thing, which may be anything, is a row of steps that lead from the one program to the other."""
    check_program(one)
    check_program(other)
    if not isinstance(thing, (list, tuple)):
        return False
    program = one
    for step in thing:
        program = behind_step(program, step)
        if program is None:
            return False
    return program == other


def behind_step(program, thing):
    """The program that comes of the step that the thing, which may be anything, is; None if it is no such step."""
    if not is_tuple(thing, 2):
        return None
    move, paper = thing
    try:
        behind = moved(program, move)
        return behind if is_alike_paper(program, behind, paper) else None
    except (BadMove, NotPlain, TooMany):
        return None
