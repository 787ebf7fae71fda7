"""Two programs: a program turned round, in what two differ, and what one can do behind the other."""

from math import lcm

from floorwalks.checks import check_place, check_program, check_whole
from floorwalks.errors import InvalidProgram
from floorwalks.programs import Program
from floorwalks.walks import SETTLED


def turned(program):
    """Return the program whose runs are those of a program backwards."""
    check_program(program)
    moves = [(other, least + change, -change, place) for place, least, change, other in program.moves()]
    return Program(program.places(), moves)


def unlike(program, other):
    """Return the first (place, last, change) of which the least begins differ, or None."""
    _check_alike(program, other)
    return _first_change(program, other, _is_unlike)


def beyond(program, other):
    """Return the first (place, last, change) that a program makes from where the other one can't, or None."""
    _check_alike(program, other)
    return _first_change(program, other, _is_beyond)


def joined(program, other, place, middle, last, change):
    """Return the least counter from which a run and one of the other program behind it make a change, or None."""
    _check_joined(program, other, place, middle, last, change)
    split = _least_split(program.walks(), other.walks(), place, middle, last, change)
    return None if split is None else split[0]


def joined_rows(program, other, place, middle, last, change):
    """Return two pressed rows that can be done one behind the other from this counter, or None."""
    _check_joined(program, other, place, middle, last, change)
    walks, behind = program.walks(), other.walks()
    split = _least_split(walks, behind, place, middle, last, change)
    if split is None:
        return None
    return (walks.row(place, middle, split[1]), behind.row(middle, last, change - split[1]))


def _check_alike(program, other):
    check_program(program)
    check_program(other)
    if other.places() != program.places():
        raise InvalidProgram(other)


def _check_joined(program, other, place, middle, last, change):
    check_program(program)
    check_program(other)
    check_place(program, place)
    check_place(program, middle)
    check_place(other, middle)
    check_place(other, last)
    check_whole(change)


def _settled(walks, other):
    """Return an amount up to which changes have to be looked at: all greater ones come again by one step in both."""
    return SETTLED + lcm(walks.common(), other.common())


def _first_change(program, other, is_meant):
    """Return the first places, and for them the least change, of whose two least begins something is true."""
    walks, others = program.walks(), other.walks()
    for place in program.places():
        for last in program.places():
            for amount in range(_settled(walks, others)):
                for change in (-amount, amount):
                    if is_meant(walks.least(place, last, change), others.least(place, last, change)):
                        return (place, last, change)
    return None


def _is_unlike(need, other):
    return need != other


def _is_beyond(need, other):
    return need is not None and (other is None or need < other)


def _least_split(walks, behind, place, middle, last, change):
    """Return the least (need, first) of the ways to split a change into a first part and the rest behind it, or None.

    Where both parts are settled, a first part that differs by a step of both runs from the same counter or, if
    it falls, from one that differs by this step. So one of both parts need not be greater than that.
    """
    far = _settled(walks, behind)
    best = None
    for first in list(range(-far, far + 1)) + list(range(change - far, change + far + 1)):
        need = walks.least(place, middle, first)
        rest = behind.least(middle, last, change - first)
        if need is not None and rest is not None and (best is None or max(need, rest - first) < best[0]):
            best = (max(need, rest - first), first)
    return best
