"""What can be come to: from which counters, with which numbers and how many, and by which rows."""

from floorwalks.checks import check_counter, check_place, check_program, check_way
from floorwalks.spans import begins_to, count_in, ends_from, next_in
from floorwalks.tables import FARTHEST
from floorwalks.walks import SETTLED


def comes_to(program, place, counter, other, end):
    """Return a pressed row that leads from place with counter to other with end, or None."""
    check_way(program, place, counter, other)
    check_counter(end)
    walks = program.walks()
    if not walks.comes(place, counter, other, end):
        return None
    return walks.row(place, other, end - counter)


def next_end(program, place, counter, other, number):
    """Return the least number of at least a number with which other can be come to, or None."""
    check_way(program, place, counter, other)
    check_counter(number)
    return next_in(ends_from(program.walks(), place, counter, other), number)


def how_many(program, place, counter, other, low, high):
    """Return with how many numbers from low to high, both with them, other can be come to."""
    check_way(program, place, counter, other)
    check_counter(low)
    check_counter(high)
    return count_in(ends_from(program.walks(), place, counter, other), low, high)


def least_begin(program, place, other, end):
    """Return the least counter from which other can be come to with end, or None."""
    _check_begin(program, place, other, end)
    return next_in(begins_to(program.walks(), place, other, end), 0)


def least_begin_for(program, place, other, number):
    """Return the least counter from which other can be come to with some number of at least a number, or None."""
    _check_begin(program, place, other, number)
    walks = program.walks()
    needs = []
    # Greater falls need not be looked at: they come again by a step, and the lesser one needs less and ends higher.
    for change in range(1 - FARTHEST, FARTHEST):
        need = walks.least(place, other, change)
        if need is not None:
            # From the counter of a rise of SETTLED and more such rises can be made as great as one likes.
            needs.append(need if change >= SETTLED else max(need, number - change))
    return min(needs, default=None)


def _check_begin(program, place, other, number):
    check_program(program)
    check_place(program, place)
    check_place(program, other)
    check_counter(number)
