"""Tests of promises [25], [26] and [27], and of [2] and [3] for what can be come to."""

import random
import time
import unittest

from floorwalks.begins import least_for
from floorwalks.ends import comes_to, how_many, least_begin, least_begin_for, next_end
from floorwalks.errors import InvalidNumber, InvalidProgram, UnknownName
from floorwalks.programs import Program
from floorwalks.rows import is_row, led

from drawn import (NAMES, check_told_row, drawn_full_program, drawn_program, ends_by_search, hard_programs, mill,
                   some_values, turned_moves)

# A shortest run climbs at most this much above its begin and its end (256 ways to pass a level, and 11).
CLIMB = 270
GREAT = 10 ** 40 - 7


def is_counter(value):
    return isinstance(value, int) and not isinstance(value, bool) and value >= 0


def comes_by_least(program, place, counter, other, end):
    least = least_for(program, place, other, end - counter)
    return least is not None and least <= counter


class ExampleTests(unittest.TestCase):
    def test_example(self):
        program = mill()
        self.assertEqual(
            [comes_to(program, "down", 9, "down", 3), next_end(program, "down", 10 ** 30, "down", 10 ** 29 + 1),
             how_many(program, "down", 10 ** 30, "down", 0, 99), least_begin(program, "down", "down", 3),
             least_begin_for(program, "up", "down", 10 ** 30)],
            [None, 100000000000000000000000000004, 25, 3, 0])

    def test_no_moves(self):
        bare = Program(["a", "b"], [])
        for counter in [0, 5, 700, GREAT]:
            self.assertEqual(comes_to(bare, "a", counter, "a", counter), [])
            self.assertIsNone(comes_to(bare, "a", counter, "a", counter + 1))
            self.assertIsNone(comes_to(bare, "a", counter, "b", counter))
            self.assertEqual(next_end(bare, "a", counter, "a", 0), counter)
            self.assertEqual(next_end(bare, "a", counter, "a", counter), counter)
            self.assertIsNone(next_end(bare, "a", counter, "a", counter + 1))
            self.assertIsNone(next_end(bare, "a", counter, "b", 0))
            self.assertEqual(how_many(bare, "a", counter, "a", 0, 2 * GREAT), 1)
            self.assertEqual(how_many(bare, "a", counter, "b", 0, 2 * GREAT), 0)
            self.assertEqual(least_begin(bare, "a", "a", counter), counter)
            self.assertEqual(least_begin_for(bare, "a", "a", counter), counter)
            self.assertIsNone(least_begin(bare, "a", "b", counter))
            self.assertIsNone(least_begin_for(bare, "a", "b", counter))

    def test_names_of_the_arguments(self):
        self.assertEqual(comes_to(program=mill(), place="up", counter=2, other="down", end=0), [(1, [1])])
        self.assertEqual(next_end(program=mill(), place="up", counter=2, other="up", number=3), 5)
        self.assertEqual(how_many(program=mill(), place="up", counter=2, other="up", low=2, high=8), 3)
        self.assertEqual(least_begin(program=mill(), place="up", other="down", end=0), 0)
        self.assertEqual(least_begin_for(program=mill(), place="down", other="down", number=5), 5)


class SearchTests(unittest.TestCase):
    """Small counters against moves done one by one below a ceiling, that knows nothing of the package."""

    def check_ends(self, rng, program, place, counter, above):
        found = ends_by_search(program.moves(), place, counter, counter + above + CLIMB)
        for other in program.places():
            told = (program.moves(), place, counter, other)
            ends = {end for at, end in found if at == other and end <= counter + above}
            for end in range(counter + above + 1):
                if rng.random() < 0.2:
                    row = comes_to(program, place, counter, other, end)
                    self.assertEqual(row is not None, end in ends, (told, end))
                    if row is not None:
                        check_told_row(self, program, (place, counter), row, (other, end))
            for _ in range(12):
                number, last = rng.randint(0, counter + above), rng.randint(0, counter + above)
                behind = [end for end in ends if end >= number]
                if behind:
                    self.assertEqual(next_end(program, place, counter, other, number), min(behind), (told, number))
                else:
                    self.assertGreater(next_end(program, place, counter, other, number) or GREAT, counter + above)
                self.assertEqual(how_many(program, place, counter, other, number, last),
                                 len([end for end in ends if number <= end <= last]), (told, number, last))

    def test_ends_of_small_counters(self):
        rng = random.Random(25)
        for _ in range(60):
            program = drawn_program(rng)
            self.check_ends(rng, program, rng.choice(program.places()), rng.randint(0, 40), 60)

    def test_ends_of_hard_and_full_programs(self):
        rng = random.Random(26)
        for program in hard_programs() + [drawn_full_program(rng) for _ in range(6)]:
            for counter in [0, 5, rng.randint(9, 80), rng.randint(200, 700)]:
                self.check_ends(rng, program, rng.choice(NAMES), counter, 120)

    def check_begins(self, program, place, other, end):
        found = ends_by_search(turned_moves(program.moves()), other, end, end + 100 + CLIMB)
        begins = [counter for at, counter in found if at == place and counter <= end + 100]
        told = least_begin(program, place, other, end)
        if begins:
            self.assertEqual(told, min(begins), (program.moves(), place, other, end))
        else:
            self.assertTrue(told is None or told > end + 100, (program.moves(), place, other, end, told))

    def test_least_begins(self):
        rng = random.Random(27)
        for program in hard_programs() + [drawn_program(rng) for _ in range(60)]:
            for end in [0, 1, 4, rng.randint(2, 60), rng.randint(60, 700)]:
                self.check_begins(program, rng.choice(program.places()), rng.choice(program.places()), end)

    def check_begin_for(self, program, place, other, number):
        told = least_begin_for(program, place, other, number)
        most = max(number, 300)
        for counter in range(0, most + 20, max(1, most // 15)):
            self.assertEqual(self.reaches(program, place, counter, other, number), told is not None and counter >= told,
                             (program.moves(), place, other, number, told, counter))
        if told is not None and told <= most:
            self.assertTrue(self.reaches(program, place, told, other, number))
            self.assertFalse(told > 0 and self.reaches(program, place, told - 1, other, number))

    def reaches(self, program, place, counter, other, number):
        # Who comes above 300 and CLIMB from a counter below has passed some place twice, and can go on upwards.
        found = ends_by_search(program.moves(), place, counter, max(number, counter) + 60 + CLIMB)
        return any(at == other and end >= number for at, end in found)

    def test_least_begins_for_numbers(self):
        rng = random.Random(28)
        for program in hard_programs() + [drawn_program(rng) for _ in range(25)]:
            for number in [0, 5, rng.randint(6, 40)]:
                self.check_begin_for(program, rng.choice(program.places()), rng.choice(program.places()), number)

    def test_only_some_sizes_will_do(self):
        fall = Program(["a", "b"], [("a", 4, -4, "a"), ("a", 6, 2, "b"), ("b", 8, -4, "b")])
        self.assertEqual([least_begin(fall, "a", "b", end) for end in range(12)],
                         [None, None, None, None, 6, 7, 8, 9, 6, 7, 8, 9])
        self.assertEqual([least_begin_for(fall, "a", "b", number) for number in [0, 7, 8, 9, 10 ** 39]],
                         [6, 6, 6, 7, 10 ** 39 - 2])
        odd = Program(["a", "b"], [("a", 0, 2, "b"), ("b", 2, -2, "a")])
        self.assertEqual([least_begin(odd, "a", "b", end) for end in [0, 1, 2, GREAT]], [None, None, 0, GREAT - 2])
        self.assertEqual([least_begin(odd, "b", "b", end) for end in [0, 1, 2]], [0, 1, 2])


class GreatTests(unittest.TestCase):
    """Great counters against [20]."""

    def check_way(self, program, place, counter, other, end):
        row = comes_to(program, place, counter, other, end)
        self.assertEqual(row is not None, comes_by_least(program, place, counter, other, end),
                         (program.moves(), place, counter, other, end))
        if row is not None:
            check_told_row(self, program, (place, counter), row, (other, end))

    def test_rows_between_great_numbers(self):
        rng = random.Random(29)
        for program in hard_programs() + [drawn_full_program(rng) for _ in range(4)]:
            for place in NAMES:
                other = rng.choice(NAMES)
                few = rng.randint(0, 60)
                for counter, end in [(few, GREAT), (GREAT, few), (GREAT, GREAT - few), (GREAT - few, GREAT),
                                     (10 ** 39 + few, GREAT), (GREAT, 10 ** 39 + few), (few, 10 ** 9), (10 ** 9, few)]:
                    for more in range(6):
                        self.check_way(program, place, counter, other, end + more)

    def test_narrow_ways(self):
        narrow = Program(NAMES, [("a", 4, -4, "a"), ("a", 3, -3, "b"), ("b", 8, -1, "c"), ("c", 7, 0, "d"), ("d", 0, 4, "d"),
                                 ("c", 8, -4, "c")])
        told = [end for end in range(40) if comes_to(narrow, "a", GREAT, "d", end) is not None]
        # All falls and rises but the two on the way are by 4, and 7 has to be left behind them.
        self.assertEqual(told, list(range(9, 40, 4)))
        for end in range(GREAT - 9, GREAT + 9):
            self.check_way(narrow, "a", GREAT, "d", end)
        self.check_way(narrow, "a", 12, "d", 10 ** 39 + 4)

    def some_numbers(self, rng, counter):
        near = [0, 1, rng.randint(2, 400), 10 ** 39]
        return near + [max(0, counter + more) for more in (-10 ** 39, -500, rng.randint(-400, 400), 1, 700, 10 ** 39)]

    def test_next_ends(self):
        rng = random.Random(30)
        for program in hard_programs() + [drawn_full_program(rng) for _ in range(3)]:
            place, other = rng.choice(NAMES), rng.choice(NAMES)
            for counter in [rng.randint(0, 300), rng.randint(500, 1000), GREAT]:
                for number in self.some_numbers(rng, counter):
                    told = next_end(program, place, counter, other, number)
                    stop = number + 300 if told is None else told
                    self.assertTrue(told is None or told >= number)
                    self.assertTrue(told is None or comes_by_least(program, place, counter, other, told))
                    for end in list(range(number, min(stop, number + 300))) + list(range(max(number, stop - 300), stop)):
                        self.assertFalse(comes_by_least(program, place, counter, other, end),
                                         (program.moves(), place, counter, other, number, end))

    def test_next_end_beyond_a_wide_gap(self):
        gap = Program(["a", "b"], [("a", 4, -4, "a"), ("a", 0, 3, "b")])
        self.assertEqual(next_end(gap, "a", GREAT, "a", GREAT - 3), GREAT)
        self.assertIsNone(next_end(gap, "a", GREAT, "a", GREAT + 1))
        self.assertEqual(next_end(gap, "a", GREAT, "b", GREAT), GREAT + 3)
        only_up = Program(["a"], [("a", 0, 4, "a")])
        self.assertEqual(next_end(only_up, "a", GREAT, "a", 0), GREAT)
        self.assertEqual(next_end(only_up, "a", 3, "a", GREAT), 10 ** 40 - 5)
        down = Program(["a", "b"], [("a", 8, -4, "a"), ("a", 4, -4, "b"), ("b", 0, 0, "a")])
        self.assertEqual(next_end(down, "b", GREAT, "b", 1), GREAT % 4)
        self.assertEqual(next_end(down, "b", GREAT, "b", GREAT - 7), GREAT - 4)

    def test_how_many_of_great_parts(self):
        program = mill()
        self.assertEqual(how_many(program, "down", 4 * 10 ** 39, "down", 0, 10 ** 40), 10 ** 39 + 1)
        self.assertEqual(how_many(program, "down", 4 * 10 ** 39, "down", 1, 4 * 10 ** 39 - 1), 10 ** 39 - 1)
        self.assertEqual(how_many(program, "up", 0, "up", 0, 3 * 10 ** 39), 10 ** 39 + 1)
        self.assertEqual(how_many(program, "up", GREAT, "up", 0, GREAT - 1), 0)

    def test_parts_add_up(self):
        rng = random.Random(31)
        for program in hard_programs() + [drawn_full_program(rng) for _ in range(3)]:
            place, other = rng.choice(NAMES), rng.choice(NAMES)
            for counter in [rng.randint(0, 60), rng.randint(550, 700), GREAT]:
                marks = sorted(set(self.some_numbers(rng, counter) + [3 * 10 ** 40]))
                parts = [how_many(program, place, counter, other, low, high - 1) for low, high in zip(marks, marks[1:])]
                self.assertEqual(sum(parts), how_many(program, place, counter, other, marks[0], marks[-1] - 1))
                for low in marks:
                    told = [comes_by_least(program, place, counter, other, end) for end in range(low, low + 150)]
                    self.assertEqual(how_many(program, place, counter, other, low, low + 149), sum(told))
                    self.assertEqual(how_many(program, place, counter, other, low, low), int(told[0]))

    def test_high_less_than_low(self):
        for counter in [0, 3, 900, GREAT]:
            for low, high in [(1, 0), (5, 4), (GREAT, 0), (GREAT, GREAT - 1), (counter + 1, counter), (900, 3)]:
                self.assertEqual(how_many(mill(), "up", counter, "up", low, high), 0)

    def test_great_begins(self):
        rng = random.Random(32)
        for program in hard_programs() + [drawn_full_program(rng) for _ in range(3)]:
            for end in [rng.randint(0, 60), 10 ** 39 + rng.randint(0, 99), GREAT]:
                place, other = rng.choice(NAMES), rng.choice(NAMES)
                told = least_begin(program, place, other, end)
                self.assertTrue(told is None or comes_by_least(program, place, told, other, end))
                high = max(end, 600) + 700 if told is None else told
                tried = list(range(min(high, 700))) + list(range(max(0, high - 700), high))
                for counter in tried + list(range(max(0, end - 400), min(high, end + 400))):
                    self.assertFalse(comes_by_least(program, place, counter, other, end))

    def test_great_numbers_to_begin_for(self):
        rng = random.Random(33)
        for program in hard_programs() + [drawn_full_program(rng) for _ in range(3)]:
            for number in [rng.randint(0, 60), rng.randint(300, 900), GREAT]:
                place, other = rng.choice(NAMES), rng.choice(NAMES)
                told = least_begin_for(program, place, other, number)
                if told is None:
                    for counter in [0, 40, number, 2 * number + 500]:
                        self.assertIsNone(next_end(program, place, counter, other, number))
                else:
                    self.assertIsNotNone(next_end(program, place, told, other, number))
                    self.assertFalse(told > 0 and next_end(program, place, told - 1, other, number) is not None)


class GeneralTests(unittest.TestCase):
    def test_seconds(self):
        for program in hard_programs():
            fresh = Program(program.places(), program.moves())
            began = time.perf_counter()
            for called in [lambda: comes_to(fresh, "a", GREAT, "d", 3), lambda: comes_to(fresh, "b", 3, "c", GREAT),
                           lambda: next_end(fresh, "a", GREAT, "c", 10 ** 39), lambda: next_end(fresh, "d", 5, "b", GREAT),
                           lambda: how_many(fresh, "c", GREAT, "d", 0, 3 * GREAT), lambda: least_begin(fresh, "d", "a", GREAT),
                           lambda: least_begin_for(fresh, "d", "c", GREAT)]:
                called()
            self.assertLess(time.perf_counter() - began, 4)

    def test_equal_calls_give_equal_results_and_new_lists(self):
        for program in hard_programs()[:5]:
            first = comes_to(program, "a", 10 ** 30, "b", 10 ** 20)
            again = comes_to(program, "a", 10 ** 30, "b", 10 ** 20)
            self.assertEqual(first, again)
            if first:
                self.assertEqual(len({id(numbers) for _, numbers in first}), len(first))
                for _, numbers in first:
                    numbers.append(77)
                first.clear()
            next_end(program, "a", 3, "d", 7)
            fresh = Program(program.places(), program.moves())
            self.assertEqual(comes_to(program, "a", 10 ** 30, "b", 10 ** 20), again)
            self.assertEqual(comes_to(fresh, "a", 10 ** 30, "b", 10 ** 20), again)
            self.assertEqual(program, fresh)

    def test_the_empty_run(self):
        for counter in [0, 7, GREAT]:
            for place in ["up", "down"]:
                row = comes_to(mill(), place, counter, place, counter)
                self.assertTrue(is_row(mill(), place, row))
                self.assertEqual(led(mill(), place, counter, row), (place, counter))


class ErrorTests(unittest.TestCase):
    CALLS = [(comes_to, ["up", 3, "down", 4]), (next_end, ["up", 3, "down", 4]), (how_many, ["up", 3, "down", 4, 5]),
             (least_begin, ["up", "down", 4]), (least_begin_for, ["up", "down", 4])]

    def raised(self, error, called, *arguments):
        with self.assertRaises(error) as caught:
            called(*arguments)
        self.assertIs(caught.exception.__class__, error)
        return caught.exception

    def test_each_argument_with_those_behind_it_wrong_too(self):
        for value in some_values():
            for called, right in self.CALLS:
                if not isinstance(value, Program):
                    for behind in [right, [value] * len(right), [None] * len(right)]:
                        self.assertIs(self.raised(InvalidProgram, called, value, *behind).value, value)
                for at, argument in enumerate(right):
                    for behind in [right[at + 1:], [value] * len(right[at + 1:]), [None] * len(right[at + 1:])]:
                        arguments = [mill()] + right[:at] + [value] + behind
                        if isinstance(argument, str) and value not in ("up", "down"):
                            self.assertIs(self.raised(UnknownName, called, *arguments).name, value)
                        if isinstance(argument, int) and not is_counter(value):
                            self.assertIs(self.raised(InvalidNumber, called, *arguments).value, value)

    def test_right_values_raise_nothing(self):
        for value in [0, 1, 9, 10 ** 40]:
            for called, right in self.CALLS:
                called(mill(), *[value if isinstance(argument, int) else argument for argument in right])


if __name__ == "__main__":
    unittest.main()
