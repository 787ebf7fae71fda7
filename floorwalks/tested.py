"""Programs with tests for nought.

Each test that can be done is done with the counter 0, and what comes behind it goes by its end alone. So all
that can be come to with tests is come to by moves from the start or from behind one of the tests.
"""

from floorwalks.checks import check_counter, check_program, check_start, check_way
from floorwalks.errors import InvalidItem, InvalidList, InvalidProgram, InvalidRow
from floorwalks.kept import holds, is_kept
from floorwalks.kinds import is_between
from floorwalks.programs import is_among
from floorwalks.rows import end_of, is_row, need_and_change
from floorwalks.spans import ends_from, stretches_of

MOST_TESTS = 6
MOST_BEHIND = 8


class Tested:
    """A program and a list of tests (place, change, other)."""

    def __init__(self, program, tests):
        check_program(program)
        _check_tests(tests, program.places())
        self._base = program
        self._tests = list(tests)

    def base(self):
        """Return the program."""
        return self._base

    def tests(self):
        """Return the list of tests, as it was given."""
        return list(self._tests)

    def __eq__(self, other):
        return isinstance(other, Tested) and self._base == other._base and self._tests == other._tests


def led_tested(tested, place, counter, row):
    """Return (other, counter) behind a tested row, or None if a move or a test can't be done."""
    _check_tested(tested)
    check_start(tested.base(), place, counter)
    if not _is_tested_row(tested, place, row):
        raise InvalidRow(row)
    moves, tests = tested.base().moves(), tested.tests()
    for at, item in enumerate(row):
        if _is_test_at(at):
            if counter != 0:
                return None
            _, counter, place = tests[item]
        else:
            need, change = need_and_change(moves, item)
            if counter < need:
                return None
            place, counter = end_of(moves, place, item), counter + change
    return (place, counter)


def tested_row(tested, place, counter, other, end):
    """Return a tested row from place with counter to other with end with as few tests as possible, or None."""
    _check_tested(tested)
    check_way(tested.base(), place, counter, other)
    check_counter(end)
    walks, tests = tested.base().walks(), tested.tests()
    ahead = _tests_ahead(walks, tests, place, counter)
    for last in [None] + list(ahead):
        at, held = (place, counter) if last is None else _behind(tests[last])
        if walks.comes(at, held, other, end):
            return _row_by(walks, tests, (place, counter), _numbers_to(ahead, last), (other, end))
    return None


def tested_ends(tested, place, counter):
    """Return a list of (other, stretches) of the numbers with which each place can be come to with tests, too."""
    _check_tested(tested)
    base = tested.base()
    check_start(base, place, counter)
    walks = base.walks()
    starts = _starts(walks, tested.tests(), place, counter)
    return [(other, _stretches_from(walks, starts, other)) for other in base.places()]


def is_tested_kept(tested, value):
    """Return whether a value is a list of (other, stretches) for each place that no move and no test leads out of."""
    _check_tested(tested)
    if not is_kept(tested.base(), value):
        return False
    held = dict(value)
    return all([holds(held[other], change) for place, change, other in tested.tests() if holds(held[place], 0)])


def _check_tested(value):
    if not isinstance(value, Tested):
        raise InvalidProgram(value)


def _check_tests(tests, places):
    if not isinstance(tests, list) or len(tests) > MOST_TESTS:
        raise InvalidList(tests)
    for test in tests:
        if not _is_test(test, places):
            raise InvalidItem(test)


def _is_test(value, places):
    if not isinstance(value, tuple) or len(value) != 3:
        return False
    place, change, other = value
    return is_among(place, places) and is_between(change, 0, MOST_BEHIND) and is_among(other, places)


def _is_test_at(at):
    return at % 2 == 1


def _is_tested_row(tested, place, value):
    """Return whether a value is a tested row that begins at a place and hangs together, done or not."""
    if not isinstance(value, list) or not value or _is_test_at(len(value) - 1):
        return False
    base, moves, tests = tested.base(), tested.base().moves(), tested.tests()
    for at, item in enumerate(value):
        if _is_test_at(at):
            if not is_between(item, 0, len(tests) - 1) or tests[item][0] != place:
                return False
            place = tests[item][2]
        else:
            if not is_row(base, place, item):
                return False
            place = end_of(moves, place, item)
    return True


def _tests_ahead(walks, tests, place, counter):
    """Return a dict of the numbers of the tests that can be done, each with that of the test ahead of it.

    The first one has None ahead of it. They are put in by how many tests have to be done ahead of them, and
    what is told for each is a way with the fewest.
    """
    ahead = {}
    waiting = [(None, place, counter)]
    taken = 0
    while taken < len(waiting):
        last, at, held = waiting[taken]
        taken += 1
        for number, (begin, change, other) in enumerate(tests):
            if number not in ahead and walks.comes(at, held, begin, 0):
                ahead[number] = last
                waiting.append((number, other, change))
    return ahead


def _numbers_to(ahead, last):
    numbers = []
    while last is not None:
        numbers.append(last)
        last = ahead[last]
    return numbers[::-1]


def _behind(test):
    """Return the tuple of the place and the counter behind a test."""
    return (test[2], test[1])


def _row_by(walks, tests, start, numbers, goal):
    row = []
    for number in numbers:
        row.append(_row_between(walks, start, (tests[number][0], 0)))
        row.append(number)
        start = _behind(tests[number])
    row.append(_row_between(walks, start, goal))
    return row


def _row_between(walks, start, goal):
    return walks.row(start[0], goal[0], goal[1] - start[1])


def _starts(walks, tests, place, counter):
    """Return a list of tuples (place, counter) from which moves alone come to all that tests lead to."""
    starts = [(place, counter)]
    for number in _tests_ahead(walks, tests, place, counter):
        other, change = _behind(tests[number])
        if not any([walks.comes(at, held, other, change) for at, held in starts]):
            starts.append((other, change))
    return starts


def _stretches_from(walks, starts, other):
    return [stretch for at, held in starts for stretch in stretches_of(ends_from(walks, at, held, other))]
