"""Tests of promises [15] and [16], of [11] where moves are done one by one, and of [2] and [3] for rows."""

import copy
import random
import time
import unittest

from floorwalks.errors import InvalidNumber, InvalidProgram, InvalidRow, UnknownName
from floorwalks.programs import Program
from floorwalks.rows import change_of, is_row, led, need_of

from drawn import NAMES, done_one_by_one, drawn_moves, drawn_program, mill, some_values, written_out

ROW = [(2, [0, 0]), (1, [1]), (3, [2])]


def drawn_row(rng, program, place):
    """A row of the program from a place: moves drawn one behind the other, rounds done several times."""
    moves, row, at = program.moves(), [], place
    for _ in range(rng.randint(0, 4)):
        numbers, here = [], at
        for _ in range(rng.randint(1, 5)):
            fitting = [number for number, move in enumerate(moves) if move[0] == here]
            if fitting:
                numbers.append(rng.choice(fitting))
                here = moves[numbers[-1]][3]
        if numbers:
            row.append((rng.randint(1, 5) if here == at else 1, numbers))
            at = here
    return row, at


def bent_rows():
    """Rows of the mill that are bent in one thing each."""
    rows = [tuple(ROW), (ROW,), [list(part) for part in ROW], ROW + [()], ROW + [(1,)], ROW + [(1, [2], 1)], ROW + [[]]]
    for times in [0, -1, True, False, None, "1", [1], (1,), -10 ** 40]:
        rows.append([(times, [0])] + ROW)
    for numbers in [[], (0,), (), None, 0, "0", {0: 0}, [None], [True], [False], ["0"], [[0]], [(0,)], [-1], [3], [10 ** 40]]:
        rows.append([(1, numbers)] + ROW)
    # The parts do not hang together: within one, between two, from one time to the next.
    rows += [[(1, [0, 2])], [(1, [1, 0])], [(1, [1]), (1, [1])], [(1, [2]), (1, [0])], [(2, [1])], [(10 ** 40, [0, 1])],
             [(1, [0]), (2, [1])]]
    return rows


class IsRowTests(unittest.TestCase):
    def test_rows_that_fit(self):
        for row in [[], ROW, [(1, [0])], [(10 ** 40, [0])], [(1, [0, 0, 1, 2])], [(1, [1])], [(1, [1]), (7, [2, 2])]]:
            self.assertIs(is_row(mill(), "up", row), True)
        self.assertIs(is_row(mill(), "down", [(4, [2])]), True)
        self.assertIs(is_row(program=mill(), place="down", value=[]), True)
        numbers = [0]
        self.assertIs(is_row(mill(), "up", [(1, numbers), (2, numbers)]), True)
        ring = Program(["a", "b"], [("a", 0, 1, "b"), ("b", 0, 1, "a")])
        self.assertTrue(is_row(ring, "a", [(9, [0, 1]), (1, [0]), (3, [1, 0])]))
        self.assertFalse(is_row(ring, "a", [(2, [0, 1, 0])]))

    def test_another_place(self):
        self.assertIs(is_row(mill(), "down", ROW), False)
        self.assertIs(is_row(mill(), "up", [(1, [2])]), False)

    def test_bent_rows(self):
        for row in bent_rows():
            self.assertIs(is_row(mill(), "up", row), False, row)

    def test_other_values(self):
        for value in some_values():
            self.assertIs(is_row(mill(), "up", value), value == [] and isinstance(value, list))

    def test_no_moves(self):
        bare = Program(["a"], [])
        self.assertTrue(is_row(bare, "a", []))
        self.assertFalse(is_row(bare, "a", [(1, [0])]))

    def test_errors(self):
        for value in some_values():
            if not isinstance(value, Program):
                with self.assertRaises(InvalidProgram) as caught:
                    is_row(value, value, value)
                self.assertIs(caught.exception.value, value)
            if value != "up":
                with self.assertRaises(UnknownName) as caught:
                    is_row(mill(), value, value)
                self.assertIs(caught.exception.name, value)


class MeasureTests(unittest.TestCase):
    def test_example(self):
        row = [(10 ** 30, [0]), (1, [1]), (7 * 10 ** 29, [2])]
        self.assertEqual(
            [change_of(mill(), row), need_of(mill(), row), need_of(mill(), [(5, [2])]), led(mill(), "up", 1, row),
             led(mill(), "down", 19, [(5, [2])])],
            [199999999999999999999999999998, 0, 20, ("down", 199999999999999999999999999999), None])

    def test_empty_row(self):
        self.assertEqual((change_of(mill(), []), need_of(mill(), [])), (0, 0))
        self.assertEqual(led(mill(), "down", 0, []), ("down", 0))
        self.assertEqual(led(mill(), "up", 10 ** 40, []), ("up", 10 ** 40))

    def test_huge_times(self):
        fall = Program(["a"], [("a", 8, -3, "a"), ("a", 0, 4, "a"), ("a", 8, 0, "a")])
        times = 10 ** 40
        self.assertEqual(need_of(fall, [(times, [0])]), 3 * (times - 1) + 8)
        self.assertEqual(need_of(fall, [(times, [1, 0])]), 4)
        self.assertEqual(need_of(fall, [(times, [0, 1])]), 8)
        self.assertEqual(need_of(fall, [(times, [2])]), 8)
        self.assertEqual(need_of(fall, [(times, [1]), (times, [0])]), 0)
        self.assertEqual(need_of(fall, [(times, [0]), (times, [1])]), 3 * (times - 1) + 8)
        self.assertEqual(change_of(fall, [(times, [1]), (times, [0, 0])]), -2 * times)
        self.assertEqual(led(fall, "a", 3 * times + 5, [(times, [0])]), ("a", 5))
        self.assertIsNone(led(fall, "a", 3 * times + 4, [(times, [0])]))

    def test_a_row_that_is_greater_than_any(self):
        fall = Program(["a"], [("a", 4, -4, "a"), ("a", 0, 4, "a")])
        row = [(10 ** 40, [0, 1] * 83)] * 300
        began = time.perf_counter()
        self.assertEqual((need_of(fall, row), change_of(fall, row), led(fall, "a", 4, row)), (4, 0, ("a", 4)))
        self.assertTrue(is_row(fall, "a", row))
        self.assertLess(time.perf_counter() - began, 5)

    def test_against_moves_done_one_by_one(self):
        rng = random.Random(16)
        for _ in range(600):
            program = drawn_program(rng)
            place = rng.choice(program.places())
            row, other = drawn_row(rng, program, place)
            moves, numbers = program.moves(), written_out(row)
            self.assertTrue(is_row(program, place, row))
            need = need_of(program, row)
            behind = done_one_by_one(moves, need, numbers)
            self.assertEqual(behind, need + change_of(program, row))
            self.assertEqual(led(program, place, need, row), (other, behind))
            self.assertEqual(led(program, place, need + 17, row), (other, behind + 17))
            if need > 0:
                self.assertIsNone(done_one_by_one(moves, need - 1, numbers))
                self.assertIsNone(led(program, place, need - 1, row))

    def test_drawn_lists_are_rows_if_they_hang_together(self):
        rng = random.Random(15)
        rows = 0
        for _ in range(3000):
            moves = drawn_moves(rng, 2, 3)
            program = Program(NAMES[:2], moves)
            row = [(rng.randint(1, 2), [rng.randrange(3) for _ in range(rng.randint(1, 2))])
                   for _ in range(rng.randint(1, 2))]
            numbers = written_out(row)
            fits = moves[numbers[0]][0] == "a" and all(
                moves[one][3] == moves[two][0] for one, two in zip(numbers, numbers[1:]))
            self.assertIs(is_row(program, "a", row), fits)
            rows += fits
        self.assertGreater(rows, 200)

    def test_arguments_are_left_alone(self):
        program, row = mill(), copy.deepcopy(ROW)
        first = [is_row(program, "up", row), change_of(program, row), need_of(program, row), led(program, "up", 3, row)]
        self.assertEqual(row, ROW)
        self.assertEqual(first, [True, -2, 2, ("down", 1)])
        self.assertEqual(program, mill())
        self.assertIsInstance(led(program, "up", 3, row), tuple)

    def test_wrong_rows(self):
        for row in bent_rows() + some_values():
            if row != [] or not isinstance(row, list):
                for called in [lambda: change_of(mill(), row), lambda: need_of(mill(), row),
                               lambda: led(mill(), "up", 5, row)]:
                    with self.assertRaises(InvalidRow) as caught:
                        called()
                    self.assertIs(caught.exception.value, row)

    def test_where_a_row_has_to_begin(self):
        fall = [(2, [2])]
        self.assertEqual((change_of(mill(), fall), need_of(mill(), fall)), (-8, 8))
        with self.assertRaises(InvalidRow) as caught:
            led(mill(), "up", 0, fall)
        self.assertIs(caught.exception.value, fall)

    def test_wrong_programs_places_and_counters(self):
        for value in some_values():
            if not isinstance(value, Program):
                for called in [lambda: change_of(value, value), lambda: need_of(value, None),
                               lambda: led(value, value, value, value)]:
                    with self.assertRaises(InvalidProgram) as caught:
                        called()
                    self.assertIs(caught.exception.value, value)
            if value != "up":
                with self.assertRaises(UnknownName) as caught:
                    led(mill(), value, value, value)
                self.assertIs(caught.exception.name, value)
            if isinstance(value, bool) or not isinstance(value, int) or value < 0:
                with self.assertRaises(InvalidNumber) as caught:
                    led(mill(), "up", value, None)
                self.assertIs(caught.exception.value, value)
