"""Tests of promises [65] and [66], and of [2] and [3] for live programs."""

import random
import time
import unittest

from floorwalks.begins import least_for
from floorwalks.ends import comes_to
from floorwalks.errors import InvalidItem, InvalidList, InvalidNumber, InvalidProgram, NothingToUndo, UnknownName
from floorwalks.heights import least_endless
from floorwalks.live import Live
from floorwalks.programs import Program
from floorwalks.rows import is_row
from floorwalks.tested import Tested

from drawn import NAMES, drawn_full_program, drawn_moves, drawn_program, mill, ring, some_values

MOVE = ("up", 8, 0, "down")


def moves_that_fit_nowhere():
    """What looks like a move between up and down and is none, in one thing each."""
    bent = [list(MOVE), MOVE[:3], MOVE + (0,), (), ("up", -1, 1, "up"), ("up", 9, -1, "up"), ("up", 8, 1, "up"),
            ("up", 3, -4, "up"), ("up", 8, -5, "up"), ("up", 3, 5, "up"), ("side", 0, 0, "up"), ("up", 0, 0, "Up"),
            ("up", True, 0, "up"), ("up", 0, True, "up"), ("up", "0", 0, "up"), ("up", 0, None, "up"),
            (["up"], 0, 0, "up"), ("up", 0, 0, ["up"]), (("up", 0, 0, "up"),)]
    return bent + [value for value in some_values() if value != ("up", 0, 0, "up")]


def is_number_below(value, many):
    return isinstance(value, int) and not isinstance(value, bool) and 0 <= value < many


class LiveCase(unittest.TestCase):
    def check_refused(self, live, error, held, called):
        """Check that a call raises an error and changes nothing."""
        before = (live.shown(), len(live), live.log())
        with self.assertRaises(error) as caught:
            called()
        self.assertIs(caught.exception.__class__, error)
        if error is not NothingToUndo:
            self.assertIs(caught.exception.name if error is UnknownName else caught.exception.value, held)
        self.assertEqual((live.shown(), len(live), live.log()), before)

    def check_stands(self, live, places, moves, log):
        self.assertEqual(live.shown(), Program(places, moves))
        self.assertEqual((live.shown().places(), live.shown().moves()), (places, moves))
        self.assertIs(type(len(live)), int)
        self.assertEqual(len(live), len(moves))
        self.assertIsInstance(live.log(), list)
        self.assertEqual(live.log(), log)
        self.assertTrue(all(isinstance(deed, tuple) for deed in live.log()))
        self.assertIs(live == Live(Program(places, moves)), True)
        self.assertIs(live != Live(Program(places, moves)), False)


class DeedTests(LiveCase):
    def test_by_hand(self):
        live = Live(mill())
        moves = mill().moves()
        self.check_stands(live, ["up", "down"], moves, [])
        self.assertIsNone(live.add(MOVE))
        self.check_stands(live, ["up", "down"], moves + [MOVE], [("add", MOVE)])
        self.assertIsNone(live.drop(1))
        self.check_stands(live, ["up", "down"], [moves[0], moves[2], MOVE], [("add", MOVE), ("drop", 1)])
        self.assertIsNone(live.change(0, MOVE))
        log = [("add", MOVE), ("drop", 1), ("change", 0, MOVE)]
        self.check_stands(live, ["up", "down"], [MOVE, moves[2], MOVE], log)
        self.assertIsNone(live.back())
        self.check_stands(live, ["up", "down"], [moves[0], moves[2], MOVE], log[:2])
        self.assertIsNone(live.back())
        self.assertIsNone(live.back())
        self.check_stands(live, ["up", "down"], moves, [])
        self.check_refused(live, NothingToUndo, None, live.back)

    def test_names_of_the_arguments(self):
        live = Live(program=mill())
        live.add(move=MOVE)
        live.change(move=MOVE, number=0)
        live.drop(number=1)
        self.assertEqual(live.shown().moves(), [MOVE, mill().moves()[2], MOVE])
        self.assertEqual(live.least_for(change=0, other="down", place="up"), 8)
        self.assertEqual(live.least_endless(place="up"), least_endless(live.shown(), "up"))

    def test_an_equal_move_is_a_deed(self):
        live = Live(mill())
        first = mill().moves()[0]
        live.change(0, first)
        self.check_stands(live, ["up", "down"], mill().moves(), [("change", 0, first)])
        live.back()
        self.check_stands(live, ["up", "down"], mill().moves(), [])
        self.check_refused(live, NothingToUndo, None, live.back)

    def test_equal_moves_keep_their_order(self):
        one, two = ("a", 0, 1, "a"), ("a", 0, 2, "a")
        live = Live(Program(["a"], [one, two, one, two, one]))
        live.drop(2)
        self.assertEqual(live.shown().moves(), [one, two, two, one])
        live.drop(3)
        self.assertEqual(live.shown().moves(), [one, two, two])
        live.drop(0)
        live.drop(0)
        live.drop(0)
        self.check_stands(live, ["a"], [], [("drop", 2), ("drop", 3), ("drop", 0), ("drop", 0), ("drop", 0)])
        for number in [0, -1, 1]:
            self.check_refused(live, InvalidNumber, number, lambda: live.drop(number))
            self.check_refused(live, InvalidNumber, number, lambda: live.change(number, one))
        live.add(two)
        self.check_stands(live, ["a"], [two], live.log())

    def test_the_tenth_move_and_the_eleventh(self):
        live = Live(mill())
        for _ in range(7):
            live.add(MOVE)
        moves = mill().moves() + [MOVE] * 7
        self.check_stands(live, ["up", "down"], moves, [("add", MOVE)] * 7)
        for _ in range(2):
            with self.assertRaises(InvalidList) as caught:
                live.add(MOVE)
            self.assertIs(caught.exception.__class__, InvalidList)
            self.assertIsInstance(caught.exception.value, list)
            self.assertEqual(caught.exception.value, moves)
            caught.exception.value.clear()
            self.check_stands(live, ["up", "down"], moves, [("add", MOVE)] * 7)
        # Whether it is a move is asked first.
        for value in moves_that_fit_nowhere():
            self.check_refused(live, InvalidItem, value, lambda: live.add(value))
        live.change(9, mill().moves()[0])
        live.drop(0)
        live.add(MOVE)
        self.check_stands(live, ["up", "down"], moves[1:9] + moves[:1] + [MOVE], live.log())
        full = Live(drawn_full_program(random.Random(1)))
        move = ("a", 0, 0, "a")
        with self.assertRaises(InvalidList):
            full.add(move)
        self.check_refused(full, NothingToUndo, None, full.back)

    def test_what_was_shown_stays(self):
        live = Live(mill())
        shown = live.shown()
        live.add(MOVE)
        behind = live.shown()
        live.drop(0)
        live.back()
        live.back()
        self.assertEqual(shown, mill())
        self.assertEqual(behind.moves(), mill().moves() + [MOVE])
        self.assertEqual(least_for(shown, "up", "down", 0), 0)
        self.assertEqual(live.shown(), shown)

    def test_lists_that_were_changed(self):
        program = mill()
        live = Live(program)
        live.add(MOVE)
        live.log().clear()
        live.shown().moves().clear()
        live.shown().places().append("x")
        program.moves().clear()
        self.check_stands(live, ["up", "down"], mill().moves() + [MOVE], [("add", MOVE)])
        self.assertIsNot(live.log(), live.log())
        self.assertEqual(program, mill())

    def test_errors(self):
        live = Live(mill())
        live.add(MOVE)
        for value in moves_that_fit_nowhere():
            self.check_refused(live, InvalidItem, value, lambda: live.add(value))
            for number in range(4):
                self.check_refused(live, InvalidItem, value, lambda: live.change(number, value))
        for value in some_values() + [4, 10, (0,), [0], "0"]:
            if not is_number_below(value, 4):
                self.check_refused(live, InvalidNumber, value, lambda: live.drop(value))
                for move in [MOVE, value, None]:
                    self.check_refused(live, InvalidNumber, value, lambda: live.change(value, move))
        self.check_stands(live, ["up", "down"], mill().moves() + [MOVE], [("add", MOVE)])

    def test_no_program(self):
        for value in some_values():
            if not isinstance(value, Program):
                with self.assertRaises(InvalidProgram) as caught:
                    Live(value)
                self.assertIs(caught.exception.value, value)

    def test_it_is_no_program(self):
        live = Live(mill())
        for called in [lambda: Live(live), lambda: Tested(live, []), lambda: is_row(live, "up", []), lambda: least_for(live, "up", "up", 0),
                       lambda: comes_to(live, "up", 0, "up", 0), lambda: least_endless(live, "up")]:
            with self.assertRaises(InvalidProgram) as caught:
                called()
            self.assertIs(caught.exception.value, live)


class EqualityTests(LiveCase):
    def test_by_the_program_alone(self):
        one, two = Live(mill()), Live(Program(["up", "down"], mill().moves()[:2]))
        self.assertIs(one == two, False)
        self.assertIs(one != two, True)
        two.add(mill().moves()[2])
        self.assertIs(one == two, True)
        self.assertIs(one != two, False)
        one.add(MOVE)
        self.assertFalse(one == two)
        one.back()
        self.assertTrue(one == two)
        self.assertFalse(one == Live(Program(["down", "up"], mill().moves())))
        self.assertFalse(one == Live(Program(["up", "down"], mill().moves()[::-1])))

    def test_other_objects(self):
        for live in [Live(mill()), Live(Program(["a"], []))]:
            for value in some_values() + [live.shown(), live.log(), (live.shown(),)]:
                if not isinstance(value, Live):
                    self.assertIs(live == value, False)
                    self.assertIs(live != value, True)
                    self.assertIs(value == live, False)


class CopyTests(LiveCase):
    def test_each_goes_its_own_way(self):
        live = Live(mill())
        live.add(MOVE)
        live.drop(0)
        moves, log = live.shown().moves(), live.log()
        copied = live.copy()
        self.assertIsInstance(copied, Live)
        self.assertIsNot(copied, live)
        self.check_stands(copied, ["up", "down"], moves, log)
        copied.back()
        self.check_stands(live, ["up", "down"], moves, log)
        self.check_stands(copied, ["up", "down"], mill().moves() + [MOVE], log[:1])
        live.change(0, MOVE)
        live.add(MOVE)
        self.check_stands(copied, ["up", "down"], mill().moves() + [MOVE], log[:1])
        copied.back()
        self.check_stands(copied, ["up", "down"], mill().moves(), [])
        self.check_refused(copied, NothingToUndo, None, copied.back)
        self.check_stands(live, ["up", "down"], [MOVE] + moves[1:] + [MOVE], log + [("change", 0, MOVE), ("add", MOVE)])
        for _ in range(4):
            live.back()
        self.check_stands(live, ["up", "down"], mill().moves(), [])
        self.check_refused(live, NothingToUndo, None, live.back)

    def test_a_copy_of_a_copy(self):
        live = Live(mill())
        live.add(MOVE)
        again = live.copy().copy()
        live.back()
        again.back()
        self.assertEqual(again.log(), [])
        self.assertEqual(again, live)


class AskTests(LiveCase):
    def test_what_it_tells(self):
        rng = random.Random(66)
        for _ in range(25):
            live = Live(drawn_program(rng))
            for _ in range(4):
                places = live.shown().places()
                move = drawn_moves(rng, len(places), 1)[0]
                live.change(0, move) if len(live) == 10 else live.add(move)
                fresh = Program(places, live.shown().moves())
                for place in places:
                    self.assertEqual(live.least_endless(place), least_endless(fresh, place))
                    for other in places:
                        for change in [0, rng.randint(-12, 12), rng.choice([-1, 1]) * (10 ** 40 - rng.randint(0, 99))]:
                            self.assertEqual(live.least_for(place, other, change), least_for(fresh, place, other, change))

    def test_by_hand(self):
        live = Live(mill())
        self.assertEqual([live.least_for("up", "down", -2), live.least_for("down", "down", -6), live.least_endless("down")], [2, None, None])
        live.add(("down", 3, -2, "down"))
        self.assertEqual([live.least_for("up", "down", -2), live.least_for("down", "down", -6)], [2, 6])
        live.add(("down", 5, 0, "up"))
        self.assertEqual([live.least_for("down", "down", -6), live.least_endless("down")], [6, 5])
        live.back()
        live.back()
        self.assertEqual([live.least_for("down", "down", -6), live.least_endless("down")], [None, None])

    def test_errors(self):
        live = Live(mill())
        live.add(MOVE)
        for value in some_values():
            if value != "up":
                for other in [value, "up", None]:
                    self.check_refused(live, UnknownName, value, lambda: live.least_for(value, other, value))
                self.check_refused(live, UnknownName, value, lambda: live.least_for("down", value, value))
                self.check_refused(live, UnknownName, value, lambda: live.least_for("down", value, 3))
                self.check_refused(live, UnknownName, value, lambda: live.least_endless(value))
            if isinstance(value, bool) or not isinstance(value, int):
                self.check_refused(live, InvalidNumber, value, lambda: live.least_for("down", "up", value))


class DrawnTests(LiveCase):
    """Drawn deeds, refused ones too, against a list of moves kept here alone."""

    def drawn_move(self, rng, places):
        if rng.random() < 0.15:
            return rng.choice([("z", 0, 0, "a"), ("a", 0, 0, "z"), ("a", 9, 0, "a"), ("a", 0, -1, "a"), None, ["a", 0, 0, "a"], ("a", 0, 0)])
        return drawn_moves(rng, len(places), 1)[0]

    def is_move(self, move, places):
        if not isinstance(move, tuple) or len(move) != 4:
            return False
        place, least, change, other = move
        return place in places and other in places and 0 <= least <= 8 and -4 <= change <= 4 and 0 <= least + change <= 8

    def one_deed(self, rng, live, places, moves, history):
        kind = rng.choice(["add", "add", "drop", "change", "change", "back"])
        move, number = self.drawn_move(rng, places), rng.randint(-1, 10)
        if kind == "back":
            if history:
                self.assertIsNone(live.back())
                return history.pop()[1]
            self.check_refused(live, NothingToUndo, None, live.back)
            return moves
        deed = {"add": ("add", move), "drop": ("drop", number), "change": ("change", number, move)}[kind]
        called = {"add": lambda: live.add(move), "drop": lambda: live.drop(number), "change": lambda: live.change(number, move)}[kind]
        if kind != "add" and not 0 <= number < len(moves):
            self.check_refused(live, InvalidNumber, number, called)
        elif kind != "drop" and not self.is_move(move, places):
            self.check_refused(live, InvalidItem, move, called)
        elif kind == "add" and len(moves) == 10:
            with self.assertRaises(InvalidList) as caught:
                called()
            self.assertEqual(caught.exception.value, moves)
        else:
            self.assertIsNone(called())
            history.append((deed, moves))
            behind = {"add": [move], "drop": [], "change": [move]}[kind]
            return moves + behind if kind == "add" else moves[:number] + behind + moves[number + 1:]
        return moves

    def test_drawn_deeds(self):
        rng = random.Random(65)
        for _ in range(25):
            program = drawn_program(rng)
            places, start = program.places(), program.moves()
            lives = [(Live(program), start, [])]
            for _ in range(100):
                at = rng.randrange(len(lives))
                live, moves, history = lives[at]
                moves = self.one_deed(rng, live, places, moves, history)
                lives[at] = (live, moves, history)
                if rng.random() < 0.05 and len(lives) < 4:
                    lives.append((live.copy(), moves, list(history)))
                for one, held, deeds in lives:
                    self.check_stands(one, places, held, [deed for deed, _ in deeds])
                for one, held, _ in lives:
                    self.assertIs(one == live, held == moves)
                    self.assertIs(one != live, held != moves)
            for live, _, history in lives:
                for _ in range(len(history)):
                    live.back()
                self.check_stands(live, places, start, [])
                self.check_refused(live, NothingToUndo, None, live.back)
            self.assertEqual(program, Program(places, start))

    def test_two_hundred_deeds_in_seconds(self):
        began = time.perf_counter()
        live = Live(Program(NAMES, ring(NAMES, [4, 4, 4, 3]) + ring(NAMES, [-4, -4, -4, -3])))
        for at in range(200):
            live.change(at % 8, ("a", at % 5, 0, NAMES[at % 4]))
            live.least_for("a", "d", 10 ** 40 - at)
        for _ in range(200):
            live.back()
        self.assertEqual(live.log(), [])
        self.assertLess(time.perf_counter() - began, 20)


if __name__ == "__main__":
    unittest.main()
