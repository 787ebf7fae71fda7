"""Least begins: the least counter from which some run makes a change between two places."""

from math import lcm

from floorwalks.checks import check_place, check_program, check_whole
from floorwalks.rounds import least_step
from floorwalks.walks import SETTLED


def least_for(program, place, other, change):
    """Return the least counter from which some run from place ends at other with this change, or None."""
    _check_change(program, place, other, change)
    return program.walks().least(place, other, change)


def row_for(program, place, other, change):
    """Return a pressed row from place to other with this change that needs no more than least_for, or None."""
    _check_change(program, place, other, change)
    return program.walks().row(place, other, change)


def steps_of(program, place, other):
    """Return (bound, step): by which step the least begins come again, from which changes on either way."""
    _check_places(program, place, other)
    walks = program.walks()
    rises = walks.rises(place, other)
    falls = walks.falls(place, other)
    settled = SETTLED + walks.common()
    step = lcm(least_step(rises[SETTLED:settled]), least_step(falls[SETTLED:settled]))
    return (max(_least_bound(rises, step), _least_bound(falls, step)), step)


def _check_places(program, place, other):
    check_program(program)
    check_place(program, place)
    check_place(program, other)


def _check_change(program, place, other, change):
    _check_places(program, place, other)
    check_whole(change)


def _least_bound(needs, step):
    bound = SETTLED
    while bound > 0 and needs[bound - 1] == needs[bound - 1 + step]:
        bound -= 1
    return bound
