"""What goes on for ever, and how high a program has to climb."""

from floorwalks.checks import check_counter, check_place, check_program, check_start, check_way
from floorwalks.climbs import lowest_climb
from floorwalks.ends import least_begin_for
from floorwalks.rows import check_led, need_and_change
from floorwalks.tables import FARTHEST


def least_endless(program, place):
    """Return the least counter from which moves can be done without end, from place on, or None."""
    check_program(program)
    check_place(program, place)
    needs = []
    for other in program.places():
        begin = _least_round(program, other)
        if begin is not None:
            needs.append(least_begin_for(program, place, other, begin[0]))
    return min([need for need in needs if need is not None], default=None)


def endless(program, place, counter):
    """Return (row, round) of a row from place with counter and a round behind it that takes nothing, or None."""
    check_start(program, place, counter)
    for other in program.places():
        begin = _least_round(program, other)
        if begin is not None:
            need, number, rest = begin
            row = _row_up_to(program, place, counter, other, need)
            if row is not None:
                behind = program.moves()[number][3]
                return (row, [(1, [number])] + program.walks().row(behind, other, rest))
    return None


def longest(program, place, counter):
    """Return the number of moves of the longest run from place with counter, None if there is no longest."""
    check_start(program, place, counter)
    least = least_endless(program, place)
    if least is not None and counter >= least:
        return None
    return _longest(program.moves(), (place, counter))


def top_of(program, place, counter, row):
    """Return the greatest counter ahead of a row and behind each of its moves, None if it can't be done."""
    check_led(program, place, counter, row)
    moves = program.moves()
    if counter < need_and_change(moves, row)[0]:
        return None
    top = counter
    for times, numbers in row:
        climb, change = _climb_and_change(moves, numbers)
        # Each further time begins higher by what one time adds; if it adds nothing, the first one climbs highest.
        top = max(top, counter + climb + (times - 1) * max(0, change))
        counter += times * change
    return top


def least_top(program, place, counter, other, end):
    """Return the least top of the rows that lead from place with counter to other with end, or None."""
    climb = _lowest_climb(program, place, counter, other, end)
    return None if climb is None else climb[0]


def row_below(program, place, counter, other, end):
    """Return a pressed row from place with counter to other with end that has the least top, or None."""
    climb = _lowest_climb(program, place, counter, other, end)
    if climb is None:
        return None
    return [(1, climb[1])] if climb[1] else []


def _lowest_climb(program, place, counter, other, end):
    check_way(program, place, counter, other)
    check_counter(end)
    return lowest_climb(program, place, counter, other, end)


def _least_round(program, place):
    """Return (need, number, rest) of a round at a place that takes nothing and needs as little as possible, or None.

    It is made of the move with this number and a run with the change rest from behind it back to the place.
    Greater rests than those below FARTHEST need no less: they come again by a step.
    """
    walks = program.walks()
    rounds = []
    for number, (start, least, change, other) in enumerate(program.moves()):
        if start == place:
            for rest in range(-change, FARTHEST):
                need = walks.least(other, place, rest)
                if need is not None:
                    rounds.append((max(least, need - change), number, rest))
    return min(rounds, default=None)


def _row_up_to(program, place, counter, other, number):
    """Return a row from place with counter to other with number or more, which is at most SETTLED, or None."""
    walks = program.walks()
    # Changes of greater amounts come again by a step, and none of them leads up to the number if no lesser one does.
    for change in range(1 - FARTHEST, FARTHEST):
        if counter + change >= number and walks.comes(place, counter, other, counter + change):
            return walks.row(place, other, change)
    return None


def _longest(moves, start):
    """Return the length of the longest run from a tuple (place, counter), if there is one.

    No recursion: a run may have thousands of moves.
    """
    lengths = {}
    waiting = [start]
    while waiting:
        place, counter = waiting[-1]
        behind = [(other, counter + change) for begin, least, change, other in moves
                  if begin == place and counter >= least]
        unknown = [state for state in behind if state not in lengths]
        if unknown:
            waiting.extend(unknown)
        else:
            waiting.pop()
            lengths[(place, counter)] = max([lengths[state] + 1 for state in behind], default=0)
    return lengths[start]


def _climb_and_change(moves, numbers):
    climb = None
    change = 0
    for number in numbers:
        change += moves[number][2]
        climb = change if climb is None else max(climb, change)
    return (climb, change)
