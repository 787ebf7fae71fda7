"""Closed sets of numbers: lists of stretches that no move leads out of."""

from floorwalks.checks import check_program, check_start
from floorwalks.errors import InvalidItem, InvalidList, InvalidNumber
from floorwalks.held import Held, is_closed, is_stretch
from floorwalks.kinds import is_whole
from floorwalks.spans import ends_from, stretches_of


def holds(stretches, number):
    """Return whether a number is held by some stretch of a list."""
    if not isinstance(stretches, list):
        raise InvalidList(stretches)
    for item in stretches:
        if not is_stretch(item):
            raise InvalidItem(item)
    if not is_whole(number):
        raise InvalidNumber(number)
    return Held(stretches).holds(number)


def ends_of(program, place, counter):
    """Return a list of (other, stretches) of the numbers with which each place can be come to."""
    check_start(program, place, counter)
    walks = program.walks()
    return [(other, stretches_of(ends_from(walks, place, counter, other))) for other in program.places()]


def is_kept(program, value):
    """Return whether a value is a list of (other, stretches) for each place that no move leads out of."""
    check_program(program)
    if not _is_list_for(program.places(), value):
        return False
    return is_closed(program.moves(), {place: Held(stretches) for place, stretches in value})


def _is_list_for(places, value):
    if not isinstance(value, list) or len(value) != len(places):
        return False
    return all([_is_item_for(place, item) for place, item in zip(places, value)])


def _is_item_for(place, item):
    if not isinstance(item, tuple) or len(item) != 2:
        return False
    other, stretches = item
    if not isinstance(other, str) or other != place or not isinstance(stretches, list):
        return False
    return all([is_stretch(stretch) for stretch in stretches])
