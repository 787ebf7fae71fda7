"""Checks of arguments that several modules share; each raises its error or returns nothing."""

from floorwalks.errors import InvalidNumber, InvalidProgram, UnknownName
from floorwalks.kinds import is_whole
from floorwalks.programs import Program


def check_program(program):
    """Raise InvalidProgram unless an argument is a program."""
    if not isinstance(program, Program):
        raise InvalidProgram(program)


def check_place(program, place):
    """Raise UnknownName unless an argument is a place of a program."""
    if not isinstance(place, str) or place not in program.places():
        raise UnknownName(place)


def check_whole(value):
    """Raise InvalidNumber unless an argument is a whole number."""
    if not is_whole(value):
        raise InvalidNumber(value)


def check_counter(value):
    """Raise InvalidNumber unless an argument is a whole number of at least 0."""
    if not is_whole(value) or value < 0:
        raise InvalidNumber(value)


def check_start(program, place, counter):
    """Raise the error of the first argument that does not fit where runs begin at place with counter."""
    check_program(program)
    check_place(program, place)
    check_counter(counter)


def check_way(program, place, counter, other):
    """Raise the error of the first argument that does not fit where runs lead from place with counter to other."""
    check_start(program, place, counter)
    check_place(program, other)
