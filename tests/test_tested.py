"""Tests of promises [50], [51], [52] and [53], and of [2] and [3] for tests for nought."""

import copy
import random
import time
import unittest

from floorwalks.begins import least_for
from floorwalks.ends import comes_to
from floorwalks.errors import InvalidItem, InvalidList, InvalidNumber, InvalidProgram, InvalidRow, UnknownName
from floorwalks.kept import ends_of, holds, is_kept
from floorwalks.library import Library
from floorwalks.live import Live
from floorwalks.programs import Program
from floorwalks.rows import is_row, led
from floorwalks.tested import Tested, is_tested_kept, led_tested, tested_ends, tested_row

from drawn import (NAMES, clock, done_one_by_one, drawn_climber, drawn_full_program, drawn_program, drawn_tests,
                   hard_programs, mill, numbers_up_to, ring, some_values, written_out)

# A shortest run climbs at most this much above its begin and its end (256 ways to pass a level, and 11).
CLIMB = 270
GREAT = 10 ** 40 - 7


def is_counter(value):
    return isinstance(value, int) and not isinstance(value, bool) and value >= 0


def drawn_tested(rng):
    program = rng.choice([drawn_program, drawn_program, drawn_climber])(rng)
    return Tested(program, drawn_tests(rng, program.places(), rng.randint(0, 6)))


def drawn_falling(rng):
    """A program of two rings, one that falls and one that rises, and tests from the first to the second and back."""
    many = rng.randint(1, 3)
    first, second = NAMES[:many], NAMES[many:]
    moves = ring(first, [-rng.choice([4, 4, 3]) for _ in first]) + ring(second, [rng.choice([4, 4, 3]) for _ in second])
    ways = [(rng.choice(first), rng.choice(second)) for _ in range(3)] + [(rng.choice(second), rng.choice(first))]
    return Tested(Program(NAMES, moves), [(place, rng.randint(0, 8), other) for place, other in ways])


def hard_tested(rng):
    return [Tested(program, drawn_tests(rng, NAMES, 6)) for program in hard_programs()]


def fewest_by_search(tested, place, counter, ceiling):
    """A dict of all (place, counter) that can be come to below a ceiling, each with the fewest tests."""
    moves, tests = tested.base().moves(), tested.tests()
    fewest = {}
    layer = {(place, counter)}
    many = 0
    while layer:
        waiting = [state for state in layer if state not in fewest]
        fewest.update({state: many for state in waiting})
        zeros = set()
        while waiting:
            at, held = waiting.pop()
            if held == 0:
                zeros.add(at)
            for start, least, change, other in moves:
                state = (other, held + change)
                if start == at and held >= least and state[1] <= ceiling and state not in fewest:
                    fewest[state] = many
                    waiting.append(state)
        many += 1
        layer = {(other, change) for begin, change, other in tests if begin in zeros} - set(fewest)
    return fewest


def tests_by_least(tested, place, counter, other, end):
    """The fewest tests on the way, by the least begins alone, or None."""
    def comes(start, goal):
        least = least_for(tested.base(), start[0], goal[0], goal[1] - start[1])
        return least is not None and least <= start[1]

    seen = [(place, counter)]
    layer = [(place, counter)]
    for many in range(8):
        if any(comes(start, (other, end)) for start in layer):
            return many
        layer = [(behind, change) for begin, change, behind in tested.tests()
                 if (behind, change) not in seen and any(comes(start, (begin, 0)) for start in layer)]
        seen += layer
    return None


class MakingTests(unittest.TestCase):
    def refused(self, error, held, program, tests):
        with self.assertRaises(error) as caught:
            Tested(program, tests)
        self.assertIs(caught.exception.__class__, error)
        self.assertIs(caught.exception.value, held)

    def test_as_given(self):
        program = mill()
        for tests in [[], [("up", 0, "up")], [("up", 8, "down"), ("up", 8, "down")], [("down", at, "up") for at in range(6)]]:
            tested = Tested(program, tests)
            self.assertEqual(tested.tests(), tests)
            self.assertEqual(tested.base(), mill())
            self.assertIsInstance(tested.tests(), list)
            self.assertTrue(all(isinstance(test, tuple) for test in tested.tests()))
            self.assertEqual(Tested(tests=tests, program=program), tested)

    def test_lists_that_were_changed(self):
        program, tests = mill(), [("down", 5, "up"), ("down", 0, "down")]
        tested = Tested(program, tests)
        tests.pop()
        tests.append(3)
        tested.tests().clear()
        tested.base().moves().clear()
        self.assertEqual(tested, clock())
        self.assertEqual(tested.tests(), [("down", 5, "up"), ("down", 0, "down")])
        self.assertEqual(program, mill())
        self.assertIsNot(tested.tests(), tested.tests())

    def test_no_program(self):
        for value in some_values() + [clock()]:
            if not isinstance(value, Program):
                for tests in [[], value, None]:
                    self.refused(InvalidProgram, value, value, tests)

    def test_tests_that_are_no_list(self):
        test = ("up", 0, "up")
        for value in some_values() + [(test,), [test] * 7, [None] * 7]:
            if not isinstance(value, list) or len(value) > 6:
                self.refused(InvalidList, value, mill(), value)

    def test_items_that_are_no_tests(self):
        test = ("down", 5, "up")
        for value in some_values():
            self.refused(InvalidItem, value, mill(), [value])
            for at in range(3):
                bent = test[:at] + (value,) + test[at + 1:]
                if not (value == "up" if at != 1 else type(value) is int and 0 <= value <= 8):
                    self.refused(InvalidItem, bent, mill(), [test, bent, None])
        for bent in [list(test), test[:2], test + ("up",), (), ("down", 9, "up"), ("down", -1, "up"), ("down", 0, "Up"),
                     ("side", 0, "up"), ("up", 0, 0, "up"), ("down", False, "up"), ("down", True, "up"), ("down", "5", "up"),
                     ("down", None, "up"), (["down"], 5, "up"), ("down", 5, ("up",)), ("down", 10 ** 40, "up")]:
            self.refused(InvalidItem, bent, mill(), [test] * 5 + [bent])

    def test_the_first_item_that_does_not_fit(self):
        first, second = ("up", 9, "up"), ("up", -1, "up")
        self.refused(InvalidItem, first, mill(), [("up", 8, "up"), first, second])
        self.refused(InvalidItem, second, mill(), [second, first])
        seven = [first] * 7
        self.refused(InvalidList, seven, mill(), seven)
        self.refused(InvalidProgram, "no", "no", seven)


class EqualityTests(unittest.TestCase):
    def test_equal(self):
        self.assertIs(clock() == clock(), True)
        self.assertIs(clock() != clock(), False)
        asked = clock()
        tested_ends(asked, "down", 9)
        self.assertTrue(asked == clock() and clock() == asked)

    def test_unequal(self):
        tests = clock().tests()
        well = Program(["up", "down"], mill().moves()[:2])
        for other in [Tested(mill(), tests[::-1]), Tested(mill(), tests[:1]), Tested(mill(), tests + tests[:1]),
                      Tested(mill(), []), Tested(well, tests), Tested(mill(), [("down", 4, "up"), tests[1]])]:
            self.assertIs(clock() == other, False)
            self.assertIs(clock() != other, True)

    def test_other_objects(self):
        for value in some_values() + [(mill(), clock().tests()), clock().tests()]:
            if not isinstance(value, Tested):
                self.assertIs(clock() == value, False)
                self.assertIs(clock() != value, True)
        bare = Tested(mill(), [])
        self.assertFalse(bare == mill() or mill() == bare)


class KindTests(unittest.TestCase):
    """A tested program is no program, and a program is no tested one."""

    def raised(self, value, called):
        with self.assertRaises(InvalidProgram) as caught:
            called()
        self.assertIs(caught.exception.value, value)

    def test_where_a_program_is_asked_for(self):
        tested, plain, library = clock(), mill(), Library()
        for called in [lambda: Tested(tested, []), lambda: Live(tested), lambda: is_row(tested, "up", []),
                       lambda: led(tested, "up", 0, []), lambda: least_for(tested, "up", "up", 0),
                       lambda: comes_to(tested, "up", 0, "up", 0), lambda: ends_of(tested, "up", 0),
                       lambda: is_kept(tested, []), lambda: library.put("a", tested), lambda: library.alike(tested)]:
            self.raised(tested, called)
        for called in [lambda: led_tested(plain, "up", 0, [[]]), lambda: tested_row(plain, "up", 0, "up", 0),
                       lambda: tested_ends(plain, "up", 0), lambda: is_tested_kept(plain, [])]:
            self.raised(plain, called)


def drawn_row(rng, tested, place, many):
    """A tested row that hangs together from a place, with small numbers of times, or None if a place has no way on."""
    moves, tests = tested.base().moves(), tested.tests()
    row = []
    for at in range(many):
        part = []
        for _ in range(rng.randint(0, 3)):
            numbers = []
            begin = place
            for _ in range(rng.randint(1, 4)):
                behind = [number for number, move in enumerate(moves) if move[0] == place]
                if behind:
                    numbers.append(rng.choice(behind))
                    place = moves[numbers[-1]][3]
            if numbers:
                part.append((rng.randint(1, 4) if place == begin else 1, numbers))
        row.append(part)
        behind = [number for number, test in enumerate(tests) if test[0] == place]
        if at < many - 1:
            if not behind:
                return row
            row.append(rng.choice(behind))
            place = tests[row[-1]][2]
    return row


def led_one_by_one(tested, place, counter, row):
    moves, tests = tested.base().moves(), tested.tests()
    for at, item in enumerate(row):
        if at % 2 == 0:
            numbers = written_out(item)
            counter = done_one_by_one(moves, counter, numbers)
            place = moves[numbers[-1]][3] if numbers else place
        elif counter == 0:
            _, counter, place = tests[item]
        else:
            return None
        if counter is None:
            return None
    return (place, counter)


def hangs_together(tested, place, row):
    """Whether a list of lists (times, numbers) and numbers by turns is a tested row that begins at a place."""
    moves, tests = tested.base().moves(), tested.tests()
    if len(row) % 2 == 0:
        return False
    for at, item in enumerate(row):
        ways = [(tests[item][0], tests[item][2])] if at % 2 else [(moves[number][0], moves[number][3]) for number in written_out(item)]
        for begin, end in ways:
            if begin != place:
                return False
            place = end
    return True


class LedTests(unittest.TestCase):
    def test_only_with_nought(self):
        tested = Tested(mill(), [("up", 7, "down"), ("down", 0, "up"), ("up", 0, "up")])
        self.assertEqual(led_tested(tested, "up", 0, [[], 0, []]), ("down", 7))
        for counter in [1, 2, 7, GREAT]:
            self.assertIsNone(led_tested(tested, "up", counter, [[], 0, []]))
            self.assertEqual(led_tested(tested, "up", counter, [[]]), ("up", counter))
        self.assertEqual(led_tested(tested, "up", 0, [[], 2, [], 2, [], 0, []]), ("down", 7))
        self.assertIsNone(led_tested(tested, "up", 0, [[], 0, [], 1, []]))
        self.assertEqual(led_tested(tested, "up", 2, [[(1, [1])], 1, [], 0, [(1, [2])]]), ("down", 3))
        self.assertIsNone(led_tested(tested, "up", 2, [[(1, [1])], 1, [], 0, [(2, [2])]]))
        self.assertIsNone(led_tested(tested, "up", 1, [[(1, [1])], 1, []]))
        self.assertEqual(led_tested(row=[[], 0, []], counter=0, place="up", tested=tested), ("down", 7))

    def test_without_tests(self):
        tested = Tested(mill(), [])
        row = [(10 ** 30, [0]), (1, [1]), (7 * 10 ** 29, [2])]
        self.assertEqual(led_tested(tested, "up", 1, [row]), ("down", 199999999999999999999999999999))
        self.assertIsNone(led_tested(tested, "down", 19, [[(5, [2])]]))
        self.assertEqual(led_tested(tested, "down", 20, [[(5, [2])]]), ("down", 0))

    def test_drawn_rows_one_by_one(self):
        rng = random.Random(51)
        told = {True: 0, False: 0}
        for _ in range(3000):
            tested = drawn_tested(rng)
            place = rng.choice(tested.base().places())
            row = drawn_row(rng, tested, place, rng.choice([1, 2, 2, 3, 5, 9]))
            if len(row) % 2 == 0:
                row = row[:-1]
            for counter in [0, rng.randint(1, 12), 40]:
                behind = led_one_by_one(tested, place, counter, row)
                self.assertEqual(led_tested(tested, place, counter, row), behind, (tested.tests(), place, counter, row))
                told[behind is not None and len(row) > 1] += 1
        self.assertGreater(min(told.values()), 100)

    def test_great_numbers(self):
        tested = Tested(mill(), [("down", 8, "up")])
        down = [(25 * 10 ** 38, [2])]
        self.assertEqual(led_tested(tested, "down", 10 ** 40, [down, 0, [(10 ** 40, [0])]]), ("up", 8 + 3 * 10 ** 40))
        self.assertIsNone(led_tested(tested, "down", 10 ** 40 - 1, [down, 0, []]))
        self.assertIsNone(led_tested(tested, "down", 10 ** 40 + 1, [down, 0, []]))
        self.assertEqual(led_tested(tested, "down", 10 ** 40 + 1, [down]), ("down", 1))

    def test_fifty_tests_and_long_rows(self):
        tested = Tested(Program(["a"], [("a", 0, 1, "a"), ("a", 1, -1, "a")]), [("a", 1, "a"), ("a", 0, "a")])
        row = [[]]
        for at in range(50):
            row += [0, [(10 ** 40, [0, 1]), (1, [1])]]
        self.assertEqual(led_tested(tested, "a", 0, row), ("a", 0))
        row = [[]]
        for at in range(50):
            row += [at % 2, [(1, [0] * 25000 + [1] * 25000), (1 - at % 2, [1])][:2 - at % 2]]
        began = time.perf_counter()
        self.assertEqual(led_tested(tested, "a", 0, row), ("a", 0))
        self.assertLess(time.perf_counter() - began, 10)

    def refused(self, tested, place, counter, row):
        with self.assertRaises(InvalidRow) as caught:
            led_tested(tested, place, counter, row)
        self.assertIs(caught.exception.__class__, InvalidRow)
        self.assertIs(caught.exception.value, row)

    def test_values_of_all_kinds(self):
        for value in some_values():
            if value != [[]]:
                self.refused(clock(), "down", 0, value)
            is_empty = value == [] and isinstance(value, list)
            is_number = type(value) is int and value in (0, 1)
            for row, fits in [([value], is_empty), ([[], 0, value], is_empty), ([value, 0, []], is_empty), ([[], value, []], is_number),
                              ([[(value, [2])]], type(value) is int and value >= 1), ([[(1, value)]], False),
                              ([[(1, [2, value])]], False), ([[value]], False)]:
                if fits:
                    led_tested(clock(), "down", 0, row)
                else:
                    self.refused(clock(), "down", 0, row)
        self.assertEqual(led_tested(clock(), "down", 0, [[], 1, []]), ("down", 0))

    def test_rows_bent_in_one_thing(self):
        right = [[(2, [2])], 0, [(1, [0]), (1, [1])], 1, []]
        self.assertIsNone(led_tested(clock(), "down", 8, right))
        for row in [right[:2], right[:4], right[1:], right + [0], right + [[]], tuple(right), [tuple(right[0])] + right[1:],
                    [right[0], [], right[2]], [right[0], 0, 0, right[2]], [right[0], [0], right[2]], [right],
                    [right[0], -1, right[2]], [right[0], 2, right[2]], [right[0], True, []], [right[0], False, right[2]],
                    [right[0], "0", right[2]], [right[0], None, right[2]], [right[0], (0,), right[2]],
                    [[(0, [2])]], [[(True, [2])]], [[(1, [])]], [[(1, [3])]], [[(1, [-1])]], [[[1, [2]]]], [[(1, (2,))]],
                    [[(1, [2], 3)]], [[(1, [True])]], [[2]], [2], [], [[], 0, right[2], 0], {0: []}, "row"]:
            self.refused(clock(), "down", 8, row)

    def test_where_it_hangs_together(self):
        # Test 0 leads from down to up, test 1 from down to down.
        for place, row in [("up", [[], 0, []]), ("up", [[(1, [2])]]), ("down", [[(1, [1])]]), ("down", [[], 0, [(1, [2])]]),
                           ("down", [[], 1, [(1, [0])]]), ("down", [[], 0, [], 0, []]), ("down", [[], 0, [], 1, []]),
                           ("up", [[(1, [1])], 0, [(1, [0])], 0, []]), ("down", [[], 1, [], 0, [], 1, []]),
                           ("up", [[(1, [1]), (1, [1])]]), ("up", [[(2, [1])]])]:
            for counter in [0, 3, GREAT]:
                self.refused(clock(), place, counter, row)
        for place, row, behind in [("up", [[]], ("up", 0)), ("down", [[], 1, [], 1, [], 0, []], ("up", 5)),
                                   ("down", [[], 0, [(1, [1])]], ("down", 3)), ("up", [[(1, [0])]], ("up", 3))]:
            self.assertEqual(led_tested(clock(), place, 0, row), behind)

    def test_the_whole_is_judged_first(self):
        for row in [[[(5, [2])], 0, [], 0, []], [[(5, [2])], 0], [[(5, [2])], 7, []], [[], 1, [(9, [2])], 0, [(1, [2])]]]:
            self.refused(clock(), "down", 3, row)

    def test_drawn_rows_bent(self):
        rng = random.Random(52)
        told = {True: 0, False: 0}
        for _ in range(1500):
            tested = drawn_tested(rng)
            moves, tests = tested.base().moves(), tested.tests()
            place = rng.choice(tested.base().places())
            row = drawn_row(rng, tested, place, rng.choice([1, 2, 3, 4]))
            at = rng.randrange(len(row))
            part = [(rng.choice([1, 2]), [rng.randrange(len(moves))])] if moves else []
            row[at:at + 1] = rng.choice([[], [row[at]], [rng.randrange(len(tests)) if at % 2 else part], [row[at]] * 3,
                                         [[]] if at % 2 == 0 else [row[at]]])
            shaped = all(isinstance(item, list) == (at % 2 == 0) for at, item in enumerate(row))
            fits = shaped and hangs_together(tested, place, row)
            counter = rng.choice([0, 1, 9])
            if fits:
                self.assertEqual(led_tested(tested, place, counter, row), led_one_by_one(tested, place, counter, row))
            else:
                self.refused(tested, place, counter, row)
            told[fits] += 1
        self.assertGreater(min(told.values()), 200)

    def test_errors(self):
        for value in some_values():
            if not isinstance(value, Tested):
                with self.assertRaises(InvalidProgram) as caught:
                    led_tested(value, value, value, value)
                self.assertIs(caught.exception.value, value)
            if value != "up":
                with self.assertRaises(UnknownName) as caught:
                    led_tested(clock(), value, value, value)
                self.assertIs(caught.exception.name, value)
            if not is_counter(value):
                for row in [value, [[]], [0]]:
                    with self.assertRaises(InvalidNumber) as caught:
                        led_tested(clock(), "up", value, row)
                    self.assertIs(caught.exception.value, value)


class RowTests(unittest.TestCase):
    def check_row(self, tested, place, counter, row, other, end, many):
        told = (tested.base().moves(), tested.tests(), place, counter, other, end)
        self.assertIsInstance(row, list, told)
        self.assertEqual(len(row), 2 * many + 1, told)
        self.assertEqual(led_tested(tested, place, counter, row), (other, end), told)
        for part in row[::2]:
            self.assertLessEqual(len(part), 10)
            self.assertLessEqual(sum(len(numbers) for _, numbers in part), 50000)
        lists = [part for part in row[::2]] + [numbers for part in row[::2] for _, numbers in part]
        self.assertEqual(len({id(one) for one in lists}), len(lists))

    def test_example(self):
        row = tested_row(clock(), "down", 8, "down", 3)
        self.assertEqual([len(row), led_tested(clock(), "down", 8, row), tested_row(clock(), "down", 9, "up", 5),
                          is_tested_kept(clock(), [("up", []), ("down", [(1, 4, None)])])], [3, ("down", 3), None, True])

    def test_no_test_where_none_is_needed(self):
        self.assertEqual(tested_row(clock(), "down", 8, "down", 8), [[]])
        self.assertEqual(tested_row(clock(), "down", 8, "down", 0), [[(1, [2, 2])]])
        self.assertEqual(len(tested_row(clock(), "up", 2, "down", 3)), 1)
        # A test that leads back to the same is never done.
        still = Tested(Program(["a"], []), [("a", 0, "a"), ("a", 3, "a")])
        self.assertEqual(tested_row(still, "a", 0, "a", 0), [[]])
        self.assertEqual(tested_row(still, "a", 0, "a", 3), [[], 1, []])
        self.assertIsNone(tested_row(still, "a", 3, "a", 0))
        self.assertIsNone(tested_row(still, "a", 0, "a", 4))

    def test_many_tests(self):
        chain = Tested(Program(NAMES, [("d", 8, -1, "d")]), [("c", 0, "d"), ("b", 0, "c"), ("a", 0, "b"), ("d", 7, "a")])
        self.assertEqual(tested_row(chain, "a", 0, "d", 0), [[], 2, [], 1, [], 0, []])
        self.assertEqual(tested_row(chain, "a", 0, "a", 7), [[], 2, [], 1, [], 0, [], 3, []])
        self.assertIsNone(tested_row(chain, "a", 0, "d", 7))
        self.assertIsNone(tested_row(chain, "a", 7, "d", 0))
        short = Tested(chain.base(), chain.tests() + [("a", 0, "d")])
        self.assertEqual(tested_row(short, "a", 0, "a", 7), [[], 4, [], 3, []])

    def test_the_fewest_where_more_are_found_first(self):
        slide = Program(NAMES, [("b", 0, 0, "d")])
        tests = [("a", 0, "b"), ("a", 0, "c"), ("c", 0, "d"), ("d", 7, "d")]
        self.assertEqual(tested_row(Tested(slide, tests), "a", 0, "d", 7), [[], 0, [(1, [0])], 3, []])
        self.assertEqual(tested_row(Tested(slide, tests[::-1]), "a", 0, "d", 7), [[], 3, [(1, [0])], 0, []])
        self.assertEqual(len(tested_row(Tested(slide, tests[1:]), "a", 0, "d", 7)), 7)

    def check_against_search(self, rng, tested, place, counter, above):
        fewest = fewest_by_search(tested, place, counter, max(counter, 8) + above + CLIMB)
        with_tests = 0
        for other in tested.base().places():
            ends = [end for at, end in fewest if at == other and end <= counter + above]
            for end in rng.sample(range(counter + above + 1), 12) + rng.sample(ends, min(8, len(ends))):
                row = tested_row(tested, place, counter, other, end)
                if (other, end) in fewest:
                    self.check_row(tested, place, counter, row, other, end, fewest[(other, end)])
                    with_tests += fewest[(other, end)] > 0
                else:
                    self.assertIsNone(row, (tested.base().moves(), tested.tests(), place, counter, other, end))
        for other, stretches in tested_ends(tested, place, counter):
            ends = {end for at, end in fewest if at == other and end <= counter + above}
            self.assertEqual(numbers_up_to(stretches, counter + above), ends,
                             (tested.base().moves(), tested.tests(), place, counter, other))
        return with_tests

    def test_small_counters_against_a_search(self):
        rng = random.Random(53)
        with_tests = 0
        for _ in range(120):
            tested = drawn_tested(rng)
            with_tests += self.check_against_search(rng, tested, rng.choice(tested.base().places()), rng.choice([0, 3, 8, 25]), 30)
        self.assertGreater(with_tests, 200)

    def test_hard_and_full_programs_against_a_search(self):
        rng = random.Random(54)
        full = [Tested(drawn_full_program(rng), drawn_tests(rng, NAMES, 6)) for _ in range(6)]
        for tested in hard_tested(rng) + full:
            for counter in [0, rng.randint(1, 60), rng.randint(200, 600)]:
                self.check_against_search(rng, tested, rng.choice(NAMES), counter, 60)

    def test_great_counters(self):
        # Down by 7 a round, at nought a test, then up by 4.
        fall = Program(["a", "b", "c"], [("a", 4, -4, "b"), ("b", 3, -3, "a"), ("c", 0, 4, "c")])
        tested = Tested(fall, [("a", 1, "c"), ("b", 2, "c")])
        for counter in range(10 ** 40 - 15, 10 ** 40):
            for end in range(10 ** 39, 10 ** 39 + 5):
                row = tested_row(tested, "a", counter, "c", end)
                ways = {0: 1, 4: 2}
                if counter % 7 in ways and end % 4 == ways[counter % 7]:
                    self.check_row(tested, "a", counter, row, "c", end, 1)
                else:
                    self.assertIsNone(row, (counter, end))
            self.assertEqual(tested_row(tested, "a", counter, "a", counter), [[]])

    def test_great_counters_against_the_least_begins(self):
        rng = random.Random(55)
        with_tests = 0
        for tested in hard_tested(rng) + [drawn_falling(rng) for _ in range(120)]:
            for _ in range(4):
                place, other = rng.choice(NAMES[:2]), rng.choice(NAMES[2:])
                counter, end = rng.choice([GREAT, 10 ** 20, 10 ** 30 - rng.randint(0, 99)]), rng.choice([0, 9, GREAT + 3, 10 ** 25])
                end += rng.randint(0, 9)
                many = tests_by_least(tested, place, counter, other, end)
                row = tested_row(tested, place, counter, other, end)
                if many is None:
                    self.assertIsNone(row, (tested.base().moves(), tested.tests(), place, counter, other, end))
                else:
                    self.check_row(tested, place, counter, row, other, end, many)
                    with_tests += many > 0
        self.assertGreater(with_tests, 10)

    def test_errors(self):
        right = [clock(), "up", 3, "down", 4]
        kinds = [InvalidProgram, UnknownName, InvalidNumber, UnknownName, InvalidNumber]
        for at, kind in enumerate(kinds):
            for value in some_values():
                fits = (isinstance(value, Tested), value == "up", is_counter(value))[{InvalidProgram: 0, UnknownName: 1, InvalidNumber: 2}[kind]]
                if not fits:
                    for behind in [right[at + 1:], [value] * (4 - at), [None] * (4 - at)]:
                        with self.assertRaises(kind) as caught:
                            tested_row(*right[:at], value, *behind)
                        self.assertIs(caught.exception.__class__, kind)
                        self.assertIs(caught.exception.name if kind is UnknownName else caught.exception.value, value)
                        if at < 3:
                            with self.assertRaises(kind) as caught:
                                tested_ends(*right[:at], value, *behind[:2 - at])
                            self.assertIs(caught.exception.name if kind is UnknownName else caught.exception.value, value)


class EndsTests(unittest.TestCase):
    def check_shape(self, tested, told):
        self.assertIsInstance(told, list)
        self.assertEqual([other for other, _ in told], tested.base().places())
        self.assertEqual(len({id(stretches) for _, stretches in told}), len(told))
        for item in told:
            self.assertIsInstance(item, tuple)
            self.assertLessEqual(len(item[1]), 21000)
            for stretch in item[1]:
                first, step, many = stretch
                self.assertTrue(isinstance(stretch, tuple) and type(first) is type(step) is int and first >= 0 and step >= 1)
                self.assertTrue(many is None or type(many) is int and many >= 1)
                self.assertTrue(many == 1 or step <= 1000)

    def test_by_hand(self):
        self.assertEqual([numbers_up_to(stretches, 40) for _, stretches in tested_ends(clock(), "down", 8)],
                         [set(range(5, 41, 3)), set(range(41))])
        self.assertEqual([numbers_up_to(stretches, 40) for _, stretches in tested_ends(clock(), "down", 9)],
                         [set(), {1, 5, 9}])
        bare = Tested(Program(["a", "b"], []), [("a", 3, "b"), ("b", 1, "a")])
        self.assertEqual([numbers_up_to(stretches, 40) for _, stretches in tested_ends(bare, "a", 0)], [{0}, {3}])
        self.assertEqual([numbers_up_to(stretches, 40) for _, stretches in tested_ends(bare, "a", 1)], [{1}, set()])
        self.assertEqual([numbers_up_to(stretches, 40) for _, stretches in tested_ends(bare, "b", 0)], [{1}, {0}])
        self.assertEqual(tested_ends(counter=1, place="a", tested=bare), tested_ends(bare, "a", 1))

    def test_without_tests(self):
        for program in hard_programs()[:4]:
            for counter in [0, 600, GREAT]:
                told = tested_ends(Tested(program, []), "b", counter)
                for (other, stretches), (again, plain) in zip(told, ends_of(program, "b", counter)):
                    self.assertEqual(other, again)
                    self.assertEqual(numbers_up_to(stretches, 1500), numbers_up_to(plain, 1500))

    def test_great_counters_against_rows(self):
        rng = random.Random(56)
        for tested in hard_tested(rng) + [drawn_tested(rng) for _ in range(20)]:
            place = rng.choice(tested.base().places())
            for counter in [GREAT, 10 ** 20 + rng.randint(0, 99)]:
                told = tested_ends(tested, place, counter)
                self.check_shape(tested, told)
                for other, stretches in told:
                    for low in [0, 20, 280, counter // 2, counter - 280, counter, counter + 300, 10 ** 41]:
                        for end in range(low, low + 12):
                            self.assertIs(holds(stretches, end), tests_by_least(tested, place, counter, other, end) is not None,
                                          (tested.base().moves(), tested.tests(), place, counter, other, end))

    def test_new_lists_and_equal_results(self):
        tested = clock()
        told = tested_ends(tested, "down", 8)
        row = tested_row(tested, "down", 8, "down", 3)
        kept = copy.deepcopy((told, row))
        told[0][1].append((1, 1, None))
        told.pop()
        row[0].append(3)
        row[2][0][1].append(9)
        row.append(None)
        tested_row(tested, "up", 8, "down", 1)
        self.assertEqual((tested_ends(tested, "down", 8), tested_row(tested, "down", 8, "down", 3)), kept)
        self.assertEqual((tested_ends(clock(), "down", 8), tested_row(clock(), "down", 8, "down", 3)), kept)

    def test_seconds(self):
        rng = random.Random(57)
        for tested in hard_tested(rng):
            for counter in [0, 650, GREAT]:
                fresh = Tested(Program(tested.base().places(), tested.base().moves()), tested.tests())
                began = time.perf_counter()
                told = tested_ends(fresh, "a", counter)
                self.assertIs(is_tested_kept(fresh, told), True)
                tested_row(fresh, "a", counter, "d", GREAT)
                self.assertLess(time.perf_counter() - began, 4)


def closed_by_search(tested, value):
    """Whether what is held is closed, number by number, up to a number below which all that is held lies or comes again."""
    steps = [step for _, stretches in value for _, step, many in stretches if many is None]
    most = 3000
    assert all(step <= 240 for step in steps)
    held = {place: numbers_up_to(stretches, most + 4) for place, stretches in value}
    for place, least, change, other in tested.base().moves():
        if any(number + change not in held[other] for number in held[place] if least <= number <= most):
            return False
    return all(0 not in held[place] or change in held[other] for place, change, other in tested.tests())


class KeptTests(unittest.TestCase):
    def test_by_hand(self):
        one, none = [(0, 4, None)], []
        self.assertIs(is_tested_kept(clock(), [("up", none), ("down", none)]), True)
        self.assertIs(is_tested_kept(clock(), [("up", none), ("down", [(1, 4, None)])]), True)
        self.assertIs(is_tested_kept(clock(), [("up", none), ("down", one)]), False)
        self.assertIs(is_tested_kept(Tested(mill(), [("down", 0, "down")]), [("up", none), ("down", one)]), True)
        self.assertIs(is_tested_kept(Tested(mill(), [("down", 8, "down")]), [("up", none), ("down", one)]), True)
        self.assertIs(is_tested_kept(Tested(mill(), [("down", 6, "down")]), [("up", none), ("down", one)]), False)
        self.assertIs(is_tested_kept(Tested(mill(), [("up", 6, "down")]), [("up", none), ("down", one)]), True)
        self.assertIs(is_tested_kept(Tested(mill(), [("down", 6, "up")]), [("up", none), ("down", one)]), False)
        self.assertIs(is_tested_kept(clock(), [("up", [(5, 1, None)]), ("down", [(0, 1, None)])]), True)
        self.assertIs(is_tested_kept(clock(), [("up", [(6, 1, None)]), ("down", [(0, 1, None)])]), False)
        self.assertIs(is_tested_kept(clock(), [("up", [(6, 1, None)]), ("down", [(1, 1, None)])]), False)
        self.assertIs(is_tested_kept(value=[("up", none), ("down", one)], tested=Tested(mill(), [])), True)

    def test_a_move_that_leads_out(self):
        self.assertIs(is_tested_kept(Tested(mill(), []), [("up", []), ("down", [(4, 4, None)])]), False)
        self.assertIs(is_tested_kept(Tested(mill(), []), [("up", [(0, 3, None)]), ("down", [(1, 4, None)])]), False)

    def test_values_of_all_kinds(self):
        bare = Tested(Program(["a"], []), [("a", 0, "a")])
        for value in some_values():
            self.assertIs(is_tested_kept(clock(), value), False)
            self.assertIs(is_tested_kept(bare, value), False)
            self.assertIs(is_tested_kept(bare, [value]), False)
            self.assertIs(is_tested_kept(bare, [(value, [])]), value == "a")
            self.assertIs(is_tested_kept(bare, [("a", value)]), value == [] and isinstance(value, list))
            self.assertIs(is_tested_kept(bare, [("a", [value])]), False)
            for at in range(3):
                bent = (0, 1, 1)[:at] + (value,) + (0, 1, 1)[at + 1:]
                fits = type(value) is int and value >= (0, 1, 1)[at] or value is None and at == 2
                self.assertIs(is_tested_kept(bare, [("a", [bent])]), fits, bent)
        right = [("up", []), ("down", [(1, 4, None)])]
        for value in [tuple(right), right[:1], right[::-1], right + right[:1], dict(right), [list(item) for item in right]]:
            self.assertIs(is_tested_kept(clock(), value), False)

    def test_program(self):
        for value in some_values():
            if not isinstance(value, Tested):
                with self.assertRaises(InvalidProgram) as caught:
                    is_tested_kept(value, value)
                self.assertIs(caught.exception.value, value)

    def test_what_is_told_is_kept(self):
        rng = random.Random(58)
        for tested in hard_tested(rng) + [drawn_tested(rng) for _ in range(80)]:
            places = tested.base().places()
            told = [tested_ends(tested, rng.choice(places), counter)
                    for counter in [0, rng.randint(1, 20), rng.randint(500, 700), GREAT]]
            for value in told:
                self.assertIs(is_tested_kept(tested, value), True)
            several = [(place, [stretch for value in told for stretch in dict(value)[place]]) for place in places]
            self.assertIs(is_tested_kept(tested, several), True)

    def test_without_what_a_test_leads_to(self):
        rng = random.Random(59)
        many = 0
        for _ in range(400):
            tested = drawn_tested(rng)
            place = rng.choice(tested.base().places())
            counter = rng.choice([0, 0, 3, 12])
            plain, told = ends_of(tested.base(), place, counter), tested_ends(tested, place, counter)
            missed = any(holds(dict(plain)[begin], 0) and not holds(dict(plain)[other], change)
                         for begin, change, other in tested.tests())
            self.assertIs(is_kept(tested.base(), plain), True)
            self.assertIs(is_tested_kept(tested, plain), not missed)
            self.assertIs(is_tested_kept(tested, told), True)
            many += missed
        self.assertGreater(many, 60)

    def test_one_number_missed(self):
        """Numbers told up to a number, written out; without one of them it is judged as by a search."""
        rng = random.Random(60)
        told = {True: 0, False: 0}
        for _ in range(150):
            tested = drawn_tested(rng)
            value = tested_ends(tested, rng.choice(tested.base().places()), rng.choice([0, 4, 30]))
            place = rng.choice([place for place, stretches in value if stretches])
            stretches = dict(value)[place]
            at = rng.randrange(len(stretches))
            first, step, many = stretches[at]
            begin = rng.choice([[], [(first, step, 1)]])
            # Without one number not far from the beginning of a stretch.
            behind = [] if many is not None and many <= len(begin) + 1 else [
                (first + (len(begin) + 1) * step, step, None if many is None else many - len(begin) - 1)]
            stretches[at:at + 1] = begin + behind
            kept = is_tested_kept(tested, value)
            self.assertIs(kept, closed_by_search(tested, value), (tested.base().moves(), tested.tests(), value))
            told[kept] += 1
        self.assertGreater(min(told.values()), 10)

    def test_drawn_values_against_a_search(self):
        rng = random.Random(61)
        told = {True: 0, False: 0}
        for _ in range(1500):
            tested = drawn_tested(rng)
            few = rng.choice([1, 2, 4])
            value = [(place, [(rng.choice([0, 0, rng.randint(0, 20)]), rng.choice([1, 1, 2, 3, 4]), rng.choice([None, None, 1, 2, 30]))
                              for _ in range(rng.randint(0, few))]) for place in tested.base().places()]
            kept = is_tested_kept(tested, value)
            self.assertIs(kept, closed_by_search(tested, value), (tested.base().moves(), tested.tests(), value))
            told[kept] += 1
        self.assertGreater(min(told.values()), 100)

    def test_steps_of_rings(self):
        ringed = Tested(Program(NAMES, ring(NAMES, [-4, -4, -4, -3])), [("a", 8, "a"), ("c", 1, "b")])
        for counter in [GREAT, 10 ** 30]:
            told = tested_ends(ringed, "a", counter)
            self.assertIs(is_tested_kept(ringed, told), True)
            for _, stretches in told:
                if stretches:
                    last = stretches.pop()
                    self.assertIs(is_tested_kept(ringed, told), False, last)
                    stretches.append(last)


if __name__ == "__main__":
    unittest.main()
