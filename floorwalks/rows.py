"""Pressed rows: lists of (times, numbers of moves), and what they need and change."""

from floorwalks.checks import check_place, check_program, check_start
from floorwalks.errors import InvalidRow
from floorwalks.kinds import is_between, is_whole


def is_row(program, place, value):
    """Return whether a value is a pressed row that begins at a place."""
    check_program(program)
    check_place(program, place)
    return _is_pressed(program, value) and _begins_at(program, place, value)


def change_of(program, row):
    """Return by how much a row raises the counter."""
    _check_row(program, row)
    return need_and_change(program.moves(), row)[1]


def need_of(program, row):
    """Return the least counter from which the moves of a row can be done one behind the other."""
    _check_row(program, row)
    return need_and_change(program.moves(), row)[0]


def led(program, place, counter, row):
    """Return (other, counter) behind a row, or None if the counter is less than it needs."""
    check_led(program, place, counter, row)
    moves = program.moves()
    need, change = need_and_change(moves, row)
    if counter < need:
        return None
    return (end_of(moves, place, row), counter + change)


def check_led(program, place, counter, row):
    """Raise the error of the first argument that does not fit where a row is done from a place with a counter."""
    check_start(program, place, counter)
    if not _is_pressed(program, row) or not _begins_at(program, place, row):
        raise InvalidRow(row)


def _check_row(program, row):
    check_program(program)
    if not _is_pressed(program, row):
        raise InvalidRow(row)


def _is_pressed(program, value):
    moves = program.moves()
    if not isinstance(value, list) or not all([_is_part(item, len(moves)) for item in value]):
        return False
    return _hangs_together(moves, value)


def _is_part(item, many):
    if not isinstance(item, tuple) or len(item) != 2:
        return False
    times, numbers = item
    if not is_whole(times) or times < 1 or not isinstance(numbers, list) or not numbers:
        return False
    return all([is_between(number, 0, many - 1) for number in numbers])


def _hangs_together(moves, row):
    ahead = None
    for times, numbers in row:
        if times > 1 and moves[numbers[-1]][3] != moves[numbers[0]][0]:
            return False
        for number in numbers:
            if ahead is not None and ahead != moves[number][0]:
                return False
            ahead = moves[number][3]
    return True


def _begins_at(program, place, row):
    return not row or program.moves()[row[0][1][0]][0] == place


def end_of(moves, place, row):
    """Return where a pressed row ends that begins at a place."""
    return moves[row[-1][1][-1]][3] if row else place


def need_and_change(moves, row):
    """Return the tuple of what a pressed row needs and by how much it raises the counter."""
    need = 0
    change = 0
    for times, numbers in row:
        once, raised = _need_and_change_once(moves, numbers)
        # Each further time begins lower by what one time takes; if it takes nothing, the first time needs most.
        need = max(need, once + (times - 1) * max(0, -raised) - change)
        change += times * raised
    return (need, change)


def _need_and_change_once(moves, numbers):
    need = 0
    change = 0
    for number in numbers:
        need = max(need, moves[number][1] - change)
        change += moves[number][2]
    return (need, change)
