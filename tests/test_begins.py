"""Tests of promises [20], [21] and [22], and of [2] and [3] for least begins."""

import random
import time
import unittest
from math import lcm

from floorwalks.begins import least_for, row_for, steps_of
from floorwalks.errors import InvalidNumber, InvalidProgram, UnknownName
from floorwalks.programs import Program
from floorwalks.rows import change_of, is_row, led, need_of

from drawn import NAMES, drawn_full_program, drawn_program, ends_by_search, hard_programs, mill, ring, some_values

# All steps by which a program of 4 places can come again divide this number.
ANY_STEP = lcm(*range(1, 17))
# A shortest run climbs at most this much above its begin and its end (256 ways to pass a level, and 11).
CLIMB = 270


def pairs_of(program):
    return [(place, other) for place in program.places() for other in program.places()]


class ExampleTests(unittest.TestCase):
    def test_example(self):
        row = row_for(mill(), "up", "down", 10 ** 30)
        self.assertEqual(
            [least_for(mill(), "up", "down", -2), least_for(mill(), "up", "down", 0), least_for(mill(), "down", "down", -8),
             least_for(mill(), "down", "down", -6), steps_of(mill(), "down", "down"), change_of(mill(), row) == 10 ** 30,
             need_of(mill(), row)],
            [2, 0, 8, None, (1, 4), True, 0])

    def test_no_moves(self):
        bare = Program(["a", "b"], [])
        self.assertEqual((least_for(bare, "a", "a", 0), row_for(bare, "a", "a", 0), steps_of(bare, "a", "a")), (0, [], (1, 1)))
        for change in [0, 1, -1, 10 ** 40, -10 ** 40]:
            self.assertIsNone(least_for(bare, "a", "b", change))
            self.assertIsNone(row_for(bare, "a", "b", change))
        self.assertIsNone(least_for(bare, "a", "a", 10 ** 40))
        self.assertEqual(steps_of(bare, "a", "b"), (0, 1))

    def test_guards_above_what_is_taken(self):
        high = Program(["a"], [("a", 8, 0, "a"), ("a", 8, -1, "a"), ("a", 7, 1, "a")])
        self.assertEqual([least_for(high, "a", "a", change) for change in [0, 1, 2, -1, -2, 10 ** 40, -10 ** 40]],
                         [0, 7, 7, 8, 9, 7, 10 ** 40 + 7])
        self.assertEqual(steps_of(high, "a", "a"), (1, 1))

    def test_rings(self):
        # From 15 and 16 all numbers from 210 on can be made, but not 209.
        two = Program(NAMES, ring(NAMES, [4, 4, 4, 4]) + ring(NAMES, [3, 4, 4, 4])[:1])
        self.assertEqual(steps_of(two, "a", "a"), (210, 1))
        self.assertEqual([least_for(two, "a", "a", change) for change in [209, 210, 10 ** 40, -1, 31, 33]],
                         [None, 0, 0, None, 0, None])
        # To rise by 1, 7 falls of 7 have to come ahead of rises by 8 in all of 50 or so: -7 * 1 + 8 * 1.
        falls_first = Program(NAMES, ring(["a", "b"], [-4, -3]) + [("a", 0, 0, "c")] + ring(["c", "d"], [4, 4]))
        self.assertEqual([least_for(falls_first, "a", "c", change) for change in [0, 1, 2, 7, 8 * 10 ** 39 + 7]],
                         [0, 7, 14, 49, 49])
        self.assertEqual(steps_of(falls_first, "a", "c")[1], 56)
        # What rises first needs nothing, whatever falls behind it.
        rises_first = Program(NAMES, ring(["a", "b"], [4, 4]) + [("a", 0, 0, "c")] + ring(["c", "d"], [-4, -3]))
        self.assertEqual([least_for(rises_first, "a", "c", change) for change in [0, 1, 2, 7, -10 ** 40]],
                         [0, 0, 0, 0, 10 ** 40])
        self.assertEqual(steps_of(rises_first, "a", "c"), (0, 1))


class SearchTests(unittest.TestCase):
    """A change can be made from a counter exactly if the least begin is no greater: both ways, among counters."""

    def check_begin(self, program, place, counter, highest):
        ends = ends_by_search(program.moves(), place, counter, counter + highest + CLIMB)
        for other in program.places():
            for change in range(-counter - 3, highest + 1):
                least = least_for(program, place, other, change)
                self.assertEqual(least is not None and least <= counter, (other, counter + change) in ends,
                                 (program.moves(), place, other, change, counter))
        return ends

    def test_all_counters_of_drawn_programs(self):
        rng = random.Random(20)
        for _ in range(12):
            program = drawn_program(rng)
            for counter in range(0, 30):
                self.check_begin(program, rng.choice(program.places()), counter, 40)

    def test_some_counters_of_hard_and_full_programs(self):
        rng = random.Random(21)
        for program in hard_programs() + [drawn_full_program(rng) for _ in range(10)]:
            for counter in [0, 1, 7, 8, rng.randint(9, 60), rng.randint(61, 300)]:
                self.check_begin(program, rng.choice(NAMES), counter, 150)

    def test_great_changes(self):
        rng = random.Random(22)
        for program in hard_programs() + [drawn_full_program(rng) for _ in range(6)]:
            place, counter = rng.choice(NAMES), rng.choice([0, 4, 12, 40])
            ends = self.check_begin(program, place, counter, 520)
            for other in NAMES:
                for change in range(320, 521):
                    for many in [1, 10 ** 5 + rng.randint(0, 9), 10 ** 34 + rng.randint(0, 99)]:
                        least = least_for(program, place, other, change + many * ANY_STEP)
                        self.assertEqual(least is not None and least <= counter, (other, counter + change) in ends)

    def test_great_changes_below_0(self):
        rng = random.Random(23)
        for program in hard_programs() + [drawn_full_program(rng) for _ in range(3)]:
            place, other, end = rng.choice(NAMES), rng.choice(NAMES), rng.choice([0, 3, 9, 30])
            ends = {counter for counter in range(end + 320, end + 380)
                    if (other, end) in ends_by_search(program.moves(), place, counter, counter + CLIMB)}
            for counter in range(end + 320, end + 380):
                for many in [0, 1, 10 ** 34 + rng.randint(0, 99)]:
                    change = end - counter - many * ANY_STEP
                    least = least_for(program, place, other, change)
                    self.assertEqual(least is not None and least + change <= end, counter in ends,
                                     (program.moves(), place, other, end, counter, many))

    def test_none_exactly_where_no_counter_will_do(self):
        steps = Program(["a", "b", "c"], [("a", 0, 4, "a"), ("a", 0, 0, "b"), ("b", 6, -4, "b"), ("c", 0, 1, "a")])
        for many in [0, 1, 2, 10 ** 39]:
            self.assertEqual(least_for(steps, "a", "b", 4 * many), 0)
            self.assertIsNotNone(least_for(steps, "a", "b", -4 * many))
            for change in [4 * many + 1, 4 * many + 2, -4 * many - 1]:
                self.assertIsNone(least_for(steps, "a", "b", change))
                self.assertIsNone(row_for(steps, "a", "b", change))
            self.assertIsNone(least_for(steps, "a", "c", 4 * many))
            self.assertIsNone(row_for(steps, "b", "a", -4 * many))
        self.assertEqual([least_for(steps, "b", "b", change) for change in [4, -4, -8, -4 * 10 ** 39]],
                         [None, 6, 10, 4 * 10 ** 39 + 2])


class RowTests(unittest.TestCase):
    def check_row(self, program, place, other, change):
        least = least_for(program, place, other, change)
        row = row_for(program, place, other, change)
        if least is None:
            self.assertIsNone(row)
            return
        self.assertIs(is_row(program, place, row), True)
        told = (program.moves(), place, other, change)
        self.assertEqual((change_of(program, row), need_of(program, row)), (change, least), told)
        self.assertEqual(led(program, place, least, row), (other, least + change), told)
        self.assertLessEqual(len(row), 10)
        self.assertLessEqual(sum(len(numbers) for _, numbers in row), 50000)
        self.assertEqual(len({id(numbers) for _, numbers in row}), len(row))

    def test_drawn_programs(self):
        rng = random.Random(24)
        for _ in range(40):
            program = drawn_program(rng)
            for place, other in pairs_of(program):
                for change in [0, rng.randint(-20, 20), rng.randint(-400, 400), rng.randint(-10 ** 40, 10 ** 40)]:
                    self.check_row(program, place, other, change)

    def test_hard_and_full_programs(self):
        rng = random.Random(25)
        for program in hard_programs() + [drawn_full_program(rng) for _ in range(10)]:
            for place, other in pairs_of(program):
                for change in [0, 1, -1, rng.randint(-60, 60), rng.randint(250, 450), -rng.randint(250, 450),
                               10 ** 40 - rng.randint(1, 99), rng.randint(1, 99) - 10 ** 40]:
                    self.check_row(program, place, other, change)

    def test_all_changes_about_the_greatest_that_are_written_out(self):
        for program in hard_programs()[:3]:
            for change in list(range(290, 420)) + list(range(-420, -290)):
                self.check_row(program, "a", "b", change)

    def test_rounds_of_each_step(self):
        for step in range(1, 17):
            steps = [min(4, max(0, step - 4 * at)) for at in range(4)]
            up = Program(NAMES, ring(NAMES, steps))
            down = Program(NAMES, ring(NAMES, [-step for step in steps]))
            for times in [1, 40, 10 ** 38]:
                self.assertEqual(least_for(up, "b", "b", times * step), 0)
                self.assertEqual(least_for(down, "b", "b", -times * step), times * step)
                self.check_row(up, "b", "b", times * step)
                self.check_row(down, "b", "b", -times * step)
                self.check_row(up, "a", "c", times * step + steps[0] + steps[1])
                self.check_row(up, "b", "b", times * step + 1)
            self.assertEqual(steps_of(up, "b", "b"), (1, step))

    def test_the_empty_run(self):
        for program in hard_programs():
            for place in NAMES:
                self.assertEqual(least_for(program, place, place, 0), 0)
                self.check_row(program, place, place, 0)


class StepTests(unittest.TestCase):
    """The promise of steps_of, checked by what least_for tells up to well behind its bound."""

    FARTHEST = 900

    def told(self, program, place, other):
        ups = [least_for(program, place, other, change) for change in range(self.FARTHEST)]
        downs = [least_for(program, place, other, -change) for change in range(self.FARTHEST)]
        return ups, [None if least is None else least - change for change, least in enumerate(downs)]

    def keeps(self, told, bound, step):
        return all(needs[at] == needs[at + step] for needs in told for at in range(bound, self.FARTHEST - step))

    def check_steps(self, program, place, other):
        bound, step = steps_of(program, place, other)
        told = self.told(program, place, other)
        reason = (program.moves(), place, other, bound, step)
        self.assertTrue(0 <= bound <= 2000 and step >= 1, reason)
        self.assertTrue(self.keeps(told, bound, step), reason)
        self.assertFalse(bound > 0 and self.keeps(told, bound - 1, step), reason)
        for lesser in range(1, step):
            self.assertFalse(self.keeps(told, 400, lesser), reason)
        return bound, step

    def test_drawn_programs(self):
        rng = random.Random(26)
        for _ in range(40):
            program = drawn_program(rng)
            self.check_steps(program, rng.choice(program.places()), rng.choice(program.places()))

    def test_hard_and_full_programs(self):
        rng = random.Random(27)
        found = [self.check_steps(program, place, other)
                 for program in hard_programs() + [drawn_full_program(rng) for _ in range(5)]
                 for place, other in pairs_of(program)]
        self.assertGreaterEqual(max(bound for bound, _ in found), 210)
        self.assertGreaterEqual(max(step for _, step in found), 56)

    def test_none_for_both_counts_as_so(self):
        only_up = Program(["a", "b"], [("a", 0, 3, "a"), ("b", 0, 0, "b")])
        self.assertEqual(steps_of(only_up, "a", "a"), (1, 3))
        self.assertEqual(steps_of(only_up, "a", "b"), (0, 1))
        self.assertEqual(steps_of(only_up, "b", "b"), (1, 1))

    def test_both_sides_count(self):
        both = Program(["a"], [("a", 0, 3, "a"), ("a", 4, -4, "a")])
        self.assertEqual(steps_of(both, "a", "a"), self.check_steps(both, "a", "a"))
        apart = Program(["a", "b", "c", "d"],
                        [("a", 0, 3, "b"), ("b", 0, 0, "b"), ("b", 0, 4, "b"), ("a", 3, -3, "c"), ("c", 3, -3, "c"),
                         ("b", 0, 0, "d"), ("c", 0, 0, "d")])
        self.assertEqual(steps_of(apart, "a", "d")[1], 12)
        self.check_steps(apart, "a", "d")
        self.assertEqual((steps_of(apart, "a", "b")[1], steps_of(apart, "a", "c")[1]), (4, 3))

    def test_great_changes_come_again(self):
        rng = random.Random(28)
        for program in hard_programs():
            for place, other in pairs_of(program):
                bound, step = steps_of(program, place, other)
                for change in [bound, bound + 1, bound + rng.randint(2, 500), 10 ** 39 + rng.randint(0, 99)]:
                    times = rng.choice([1, 2, 10 ** 38])
                    self.assertEqual(least_for(program, place, other, change),
                                     least_for(program, place, other, change + times * step))
                    near, far = [least_for(program, place, other, -change - more) for more in (0, times * step)]
                    self.assertEqual(near, None if far is None else far - times * step)


class GeneralTests(unittest.TestCase):
    def test_seconds(self):
        for program in hard_programs():
            fresh = Program(program.places(), program.moves())
            began = time.perf_counter()
            for change in [1, 10 ** 40, -10 ** 40]:
                row_for(fresh, "a", "d", change)
                least_for(fresh, "b", "c", change)
            steps_of(fresh, "d", "a")
            self.assertLess(time.perf_counter() - began, 3)

    def test_equal_calls_give_equal_results(self):
        for program in hard_programs()[:4]:
            asked = [(called, place, other, change) for place, other in pairs_of(program)
                     for called in (least_for, row_for) for change in (-10 ** 30, -5, 0, 7, 10 ** 30)]
            first = [called(program, place, other, change) for called, place, other, change in asked]
            for row in first:
                if isinstance(row, list):
                    for _, numbers in row:
                        numbers.append(3)
                    row.append("more")
            fresh = Program(program.places(), program.moves())
            for called, place, other, change in reversed(asked):
                self.assertEqual(called(program, place, other, change), called(fresh, place, other, change))
            self.assertEqual(program, fresh)

    def test_lists_that_are_changed_later(self):
        places, moves = ["a", "b"], [("a", 0, 2, "b"), ("b", 1, -1, "a")]
        program = Program(places, moves)
        moves[0] = ("a", 5, 3, "b")
        places.reverse()
        program.moves().clear()
        self.assertEqual([least_for(program, "a", "b", 2), least_for(program, "a", "a", 10 ** 40)], [0, 0])
        self.assertIsNone(least_for(program, "a", "b", 1 - 10 ** 40))

    def test_names_of_the_arguments(self):
        self.assertEqual(least_for(program=mill(), place="up", other="down", change=-2), 2)
        self.assertEqual(row_for(program=mill(), place="up", other="down", change=-2), [(1, [1])])
        self.assertEqual(steps_of(program=mill(), place="down", other="down"), (1, 4))
        self.assertIsInstance(steps_of(mill(), "up", "down"), tuple)


class ErrorTests(unittest.TestCase):
    def raised(self, error, called, *arguments):
        with self.assertRaises(error) as caught:
            called(*arguments)
        self.assertIs(caught.exception.__class__, error)
        return caught.exception

    def test_errors_in_order(self):
        for value in some_values():
            for called, change in [(least_for, (value,)), (row_for, (value,)), (steps_of, ())]:
                if not isinstance(value, Program):
                    self.assertIs(self.raised(InvalidProgram, called, value, None, value, *change).value, value)
                if value != "up":
                    self.assertIs(self.raised(UnknownName, called, mill(), value, 7, *change).name, value)
                    self.assertIs(self.raised(UnknownName, called, mill(), "up", value, *change).name, value)
                if change and (isinstance(value, bool) or not isinstance(value, int)):
                    self.assertIs(self.raised(InvalidNumber, called, mill(), "up", "up", value).value, value)

    def test_places_of_another_program(self):
        for name in ["a", "Up", "up ", "", "dow"]:
            self.assertEqual(self.raised(UnknownName, least_for, mill(), "up", name, 1).name, name)
