"""Tests of promise [10] and of [2] as far as it bears on programs; [11] is tested with the rows and the begins."""

import unittest

from floorwalks.errors import InvalidItem, InvalidList
from floorwalks.programs import Program

from drawn import mill, some_values

MOVE = ("up", 2, -2, "down")


class Odd:
    """Equal to everything, if it is asked."""

    def __eq__(self, other):
        return True


class MakingTests(unittest.TestCase):
    def refused(self, error, held, places, moves):
        with self.assertRaises(error) as caught:
            Program(places, moves)
        self.assertIs(caught.exception.__class__, error)
        self.assertIs(caught.exception.value, held)

    def test_as_given(self):
        for places, moves in [
                (["a"], []),
                (["up", "down"], [MOVE, MOVE, ("down", 0, 0, "down")]),
                (["zz", "abcdefgh", "a", "m"], [("a", 0, 4, "zz")] * 10),
        ]:
            program = Program(places, moves)
            self.assertEqual((program.places(), program.moves()), (places, moves))
            self.assertEqual(Program(places=places, moves=moves), program)
            self.assertIsInstance(program.places(), list)
            self.assertTrue(all(isinstance(move, tuple) for move in program.moves()))

    def test_edges_of_moves(self):
        for least, change in [(0, 0), (0, 4), (8, 0), (8, -4), (4, 4), (4, -4), (1, -1), (7, 1), (3, -3)]:
            move = ("up", least, change, "up")
            self.assertEqual(Program(["up"], [move]).moves(), [move])
        for least, change in [(-1, 1), (9, -1), (9, -4), (8, 1), (5, 4), (3, -4), (0, -1), (8, -5), (3, 5), (0, 10 ** 40)]:
            move = ("up", least, change, "up")
            self.refused(InvalidItem, move, ["up"], [("up", 0, 0, "up"), move])

    def test_lists_that_were_changed(self):
        places, moves = ["up", "down"], [MOVE]
        program = Program(places, moves)
        places.append("far")
        places[0] = "x"
        moves.append(3)
        program.places().clear()
        program.moves().pop()
        self.assertEqual((program.places(), program.moves()), (["up", "down"], [MOVE]))
        self.assertIsNot(program.places(), program.places())
        self.assertIsNot(program.moves(), program.moves())

    def test_arguments_are_left_alone(self):
        places, moves = ["up", "down"], [MOVE]
        Program(places, moves)
        self.assertEqual((places, moves), (["up", "down"], [MOVE]))

    def test_places_that_are_no_list(self):
        for value in some_values():
            if not isinstance(value, list) or not value:
                self.refused(InvalidList, value, value, [])
        for value in [("a", "b"), ["a", "b", "c", "d", "e"], ["a"] * 5, [1] * 5]:
            self.refused(InvalidList, value, value, [])

    def test_items_that_are_no_names(self):
        for value in some_values():
            if value not in ("a", "up"):
                self.refused(InvalidItem, value, ["x", value], [])
        for value in ["abcdefghi", "A", "aB", "a1", "a_", " a", "a\n", "\u00e9", "\u00aa", "\u0430", b"a"]:
            self.refused(InvalidItem, value, [value], [])

    def test_the_first_item_that_does_not_fit(self):
        twice, odd, later = "ab", ["a"], "B"
        self.refused(InvalidItem, odd, ["ab", odd, twice], [])
        again = "".join(["a", "b"])
        self.refused(InvalidItem, again, ["ab", "c", again, later], [])
        bent = ("up", 0, 0, "side")
        self.refused(InvalidItem, bent, ["up"], [("up", 0, 0, "up"), bent, None])

    def test_moves_that_are_no_list(self):
        for value in some_values():
            if not isinstance(value, list):
                self.refused(InvalidList, value, ["up"], value)
        for value in [(MOVE,), [MOVE] * 11, [None] * 11]:
            self.refused(InvalidList, value, ["up", "down"], value)

    def test_items_that_are_no_moves(self):
        for value in some_values():
            if value != ("up", 0, 0, "up"):
                self.refused(InvalidItem, value, ["up"], [value])
        for at in range(4):
            for value in some_values():
                move = MOVE[:at] + (value,) + MOVE[at + 1:]
                fits = value == "up" if at in (0, 3) else at == 2 and type(value) is int and -2 <= value <= 4
                if not fits:
                    self.refused(InvalidItem, move, ["up", "down"], [MOVE, move, 3])
        for move in [list(MOVE), MOVE[:3], MOVE + (0,), ("Up",) + MOVE[1:], ("up", True, 0, "up"), ("up", 1, False, "up"),
                     ("up", "2", -2, "up"), ("up", 2, None, "up"), (["up"], 0, 0, "up"), ("up", 0, 0, {})]:
            self.refused(InvalidItem, move, ["up", "down"], [MOVE, move])

    def test_order_of_the_refusals(self):
        self.refused(InvalidList, "no", "no", "none")
        none = ("up",)
        self.refused(InvalidItem, none, [none], None)
        moves = [None] * 11
        self.refused(InvalidList, moves, ["up"], moves)


class EqualityTests(unittest.TestCase):
    def test_equal(self):
        self.assertTrue(mill() == mill())
        self.assertFalse(mill() != mill())
        self.assertIs(mill() == mill(), True)

    def test_unequal_programs(self):
        places, moves = mill().places(), mill().moves()
        others = [Program(places[::-1], moves), Program(places + ["far"], moves), Program(places, moves[::-1]),
                  Program(places, moves[:2]), Program(places, moves + moves[:1]), Program(places, [])]
        for at in range(3):
            start, least, change, other = moves[at]
            others.append(Program(places, moves[:at] + [(start, least + 1, change, other)] + moves[at + 1:]))
        for program in others:
            self.assertTrue(mill() != program)
            self.assertFalse(mill() == program)

    def test_other_objects(self):
        for value in some_values() + [(mill().places(), mill().moves()), mill().moves(), Program]:
            if not isinstance(value, Program):
                self.assertFalse(mill() == value)
                self.assertTrue(mill() != value)
        self.assertFalse(mill() == Odd())

    def test_what_was_asked_between(self):
        asked = mill()
        asked.walks().least("up", "down", 7)
        self.assertTrue(asked == mill() and mill() == asked)
