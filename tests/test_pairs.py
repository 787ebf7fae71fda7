"""Tests of promises [45], [46] and [47], and of [2] and [3] for two programs."""

import copy
import random
import time
import unittest
from math import lcm

from floorwalks.begins import least_for, steps_of
from floorwalks.errors import InvalidNumber, InvalidProgram, UnknownName
from floorwalks.pairs import beyond, joined, joined_rows, turned, unlike
from floorwalks.programs import Program
from floorwalks.rows import change_of, led

from drawn import (NAMES, check_told_row, drawn_climber, drawn_full_program, drawn_moves, drawn_program, ends_by_search,
                   hard_programs, mill, ring, some_values, turned_moves)

GREAT = 10 ** 40 - 7
# A shortest run climbs at most this much above its begin and its end (256 ways to pass a level, and 11).
CLIMB = 270


def well():
    return Program(["up", "down"], [("up", 0, 3, "up"), ("up", 2, -2, "down"), ("down", 8, -4, "down")])


def is_less(need, other):
    return need is not None and (other is None or need < other)


def by_amount(most):
    """The changes up to an amount, in the order in which they are to be told."""
    return [0] + [change for amount in range(1, most + 1) for change in (-amount, amount)]


def first_by_scan(program, other, is_meant, most):
    """The first tuple (place, last, change) up to an amount, by [20] alone."""
    for place in program.places():
        for last in program.places():
            for change in by_amount(most):
                if is_meant(least_for(program, place, last, change), least_for(other, place, last, change)):
                    return (place, last, change)
    return None


class ExampleTests(unittest.TestCase):
    def test_example(self):
        self.assertEqual(
            [turned(mill()).moves(), unlike(mill(), well()), beyond(well(), mill()), beyond(mill(), well()),
             joined(mill(), well(), "up", "down", "down", -1), joined(well(), mill(), "down", "down", "down", -12)],
            [[("up", 3, -3, "up"), ("down", 0, 2, "up"), ("down", 0, 4, "down")], ("up", "down", 0), None, ("up", "down", 0),
             1, 12])

    def test_names_of_the_arguments(self):
        self.assertEqual(turned(program=mill()), turned(mill()))
        self.assertEqual(unlike(program=mill(), other=well()), ("up", "down", 0))
        self.assertEqual(beyond(program=mill(), other=well()), ("up", "down", 0))
        asked = {"program": mill(), "other": well(), "place": "up", "middle": "down", "last": "down", "change": -1}
        self.assertEqual(joined(**asked), 1)
        first, second = joined_rows(**asked)
        self.assertEqual(change_of(mill(), first) + change_of(well(), second), -1)


class TurnedTests(unittest.TestCase):
    def test_turned_back(self):
        rng = random.Random(45)
        for program in [mill(), Program(["a"], [])] + hard_programs() + [drawn_program(rng) for _ in range(60)]:
            kept = Program(program.places(), program.moves())
            back = turned(program)
            self.assertIsInstance(back, Program)
            self.assertEqual((back.places(), back.moves()), (program.places(), turned_moves(program.moves())))
            self.assertEqual(turned(back), program)
            self.assertEqual(program, kept)

    def test_edges_of_moves(self):
        for least in range(9):
            for change in range(max(-4, -least), min(4, 8 - least) + 1):
                program = Program(["a", "b"], [("a", least, change, "b")])
                self.assertEqual(turned(program).moves(), [("b", least + change, -change, "a")])

    def test_least_begins_are_those_backwards(self):
        rng = random.Random(46)
        for program in hard_programs() + [drawn_program(rng) for _ in range(20)]:
            back = turned(program)
            for _ in range(40):
                place, other = rng.choice(program.places()), rng.choice(program.places())
                change = rng.choice([rng.randint(-400, 400), GREAT - rng.randint(0, 99), rng.randint(0, 99) - GREAT])
                least = least_for(program, place, other, change)
                self.assertEqual(least_for(back, other, place, -change), None if least is None else least + change)

    def test_errors(self):
        for value in some_values():
            if not isinstance(value, Program):
                with self.assertRaises(InvalidProgram) as caught:
                    turned(value)
                self.assertIs(caught.exception.value, value)


class UnlikeTests(unittest.TestCase):
    def check_pair(self, program, other, most=150):
        for called, is_meant in [(unlike, lambda need, theirs: need != theirs), (beyond, is_less)]:
            told = called(program, other)
            known = first_by_scan(program, other, is_meant, most)
            if told is None:
                self.assertIsNone(known, (program.moves(), other.moves()))
            else:
                self.assertIsInstance(told, tuple)
                if abs(told[2]) <= most:
                    self.assertEqual(told, known, (program.moves(), other.moves()))
                least, theirs = [least_for(one, *told) for one in (program, other)]
                self.assertTrue(is_meant(least, theirs))
        return unlike(program, other)

    def test_equal_programs(self):
        rng = random.Random(47)
        for program in [mill(), well(), Program(["a"], [])] + hard_programs()[:9] + [drawn_program(rng) for _ in range(12)]:
            moves = program.moves()
            mixed = list(moves)
            rng.shuffle(mixed)
            doubled = (moves + moves)[:10]
            for other in [program, Program(program.places(), moves), Program(program.places(), mixed),
                          Program(program.places(), doubled)]:
                for called in (unlike, beyond):
                    self.assertIsNone(called(program, other))
                    self.assertIsNone(called(other, program))

    def test_moves_that_others_do_as_well(self):
        plain = Program(["a", "b"], [("a", 0, 2, "b"), ("b", 1, -1, "a"), ("a", 0, 1, "a")])
        more = Program(["a", "b"], plain.moves() + [("a", 5, 1, "a"), ("b", 2, 1, "b"), ("a", 0, 3, "b"), ("b", 4, 0, "b")])
        self.assertEqual([unlike(plain, more), unlike(more, plain), beyond(plain, more), beyond(more, plain)], [None] * 4)

    def test_drawn_pairs(self):
        rng = random.Random(48)
        found = {}
        for program in hard_programs() + [drawn_climber(rng) for _ in range(15)] + [drawn_program(rng) for _ in range(60)]:
            moves = program.moves()
            if rng.random() < 0.7 and moves:
                at = rng.randrange(len(moves))
                place, least, change, other = moves[at]
                moves[at:at + 1] = rng.choice([[], [(place, rng.randint(max(0, -change), 8 - max(0, change)), change, other)],
                                               drawn_moves(rng, len(program.places()), 1)])
            else:
                moves = drawn_moves(rng, len(program.places()), rng.randint(0, 10))
            other = Program(program.places(), moves)
            told = self.check_pair(program, other)
            self.assertEqual(self.check_pair(other, program), told)
            found[None if told is None else abs(told[2])] = True
        self.assertTrue({None, 0, 1, 2} <= set(found), found)
        self.assertGreater(max(key for key in found if key is not None), 6)

    def test_one_change_only(self):
        none = Program(["b", "a"], [])
        for least, change in [(3, 0), (4, -4), (0, 4), (1, -1), (6, 1)]:
            one = Program(["b", "a"], [("a", least, change, "b")])
            self.assertEqual(self.check_pair(one, none), ("a", "b", change))
            self.assertEqual(beyond(one, none), ("a", "b", change))
            self.assertEqual(self.check_pair(none, one), ("a", "b", change))
            self.assertIsNone(beyond(none, one))
            # Here the change can be made by both, but not from the same counters.
            if least < 8 - max(0, change):
                later = Program(["b", "a"], [("a", least + 1, change, "b")])
                self.assertEqual(self.check_pair(one, later), ("a", "b", change))
                self.assertEqual((beyond(one, later), beyond(later, one)), (("a", "b", change), None))

    def test_of_two_changes_the_one_below_0(self):
        both = Program(["a", "b"], [("a", 0, 2, "b"), ("a", 2, -2, "b")])
        none = Program(["a", "b"], [])
        self.assertEqual((unlike(both, none), unlike(none, both), beyond(both, none)), (("a", "b", -2),) * 3)
        up, down = Program(["a", "b"], [("a", 0, 2, "b")]), Program(["a", "b"], [("a", 2, -2, "b")])
        self.assertEqual((unlike(both, up), beyond(both, up)), (("a", "b", -2),) * 2)
        self.assertEqual((unlike(both, down), beyond(both, down)), (("a", "b", 2),) * 2)
        self.assertEqual([unlike(up, down), beyond(up, down), beyond(down, up)],
                         [("a", "b", -2), ("a", "b", 2), ("a", "b", -2)])
        far = Program(["a", "b"], [("a", 0, 1, "b"), ("a", 2, -2, "b")])
        self.assertEqual((unlike(far, none), beyond(far, down)), (("a", "b", 1),) * 2)

    def test_the_first_places(self):
        moves = [("c", 0, 0, "c"), ("c", 0, 1, "b"), ("b", 0, 1, "a"), ("a", 0, 1, "c")]
        for places in [["a", "b", "c"], ["c", "b", "a"], ["b", "c", "a"]]:
            told = self.check_pair(Program(places, moves[:3]), Program(places, []))
            self.assertEqual(told, {"a": ("b", "a", 1), "b": ("b", "a", 1), "c": ("c", "b", 1)}[places[0]])
            self.check_pair(Program(places, moves), Program(places, moves[1:3]))

    def test_great_changes_only(self):
        # Steps between the two places make 0 to 11, as the moves by 1 do; no more come behind that.
        steps = [("a", 0, change, "b") for change in (0, 1, 2, 3)]
        steps += [("b", 0, 0, "d"), ("b", 0, 4, "d"), ("d", 0, 0, "c"), ("d", 0, 4, "c")]
        few = Program(["a", "c", "b", "d"], steps)
        many = Program(["a", "c", "b", "d"], [("a", 0, 0, "b"), ("b", 0, 1, "b"), ("b", 0, 0, "d"), ("d", 0, 0, "c")])
        self.assertEqual((self.check_pair(few, many), beyond(few, many), beyond(many, few)),
                         (("a", "c", 12), ("d", "c", 4), ("a", "c", 12)))
        chains = [
            (["d", "c", "a", "b"], 13, [("a", 0, 2, "b"), ("b", 0, 4, "c"), ("c", 0, 4, "a"), ("d", 0, 4, "d"),
                                        ("a", 1, -1, "d"), ("a", 0, 4, "d")], [("c", 2, 4, "a")]),
            (["a", "d", "c", "b"], -19, [("d", 0, 4, "d"), ("a", 4, -4, "b"), ("b", 4, -4, "c"), ("c", 3, -3, "a"),
                                         ("b", 0, 0, "d"), ("a", 4, 4, "d"), ("c", 4, 4, "d")], [("c", 7, -4, "b")]),
        ]
        for places, change, moves, other in chains:
            told = self.check_pair(Program(places, moves), Program(places, other + moves[1:]))
            self.assertEqual(told[2], change)

    def test_changes_of_forty_figures(self):
        # The difference stands at each change that is great enough, in one direction only.
        up = Program(["a", "b"], [("a", 0, 4, "a"), ("a", 0, 0, "b")])
        down = Program(["a", "b"], [("a", 0, 4, "a"), ("a", 0, 0, "b"), ("b", 4, -4, "b")])
        self.assertEqual((unlike(up, down), beyond(down, up), beyond(up, down)), (("a", "b", -4), ("a", "b", -4), None))
        for one, two in [(hard_programs()[0], hard_programs()[3]), (hard_programs()[6], hard_programs()[7])]:
            self.check_pair(one, two)
        thirds = Program(["a"], [("a", 0, 3, "a"), ("a", 0, 4, "a")])
        without = Program(["a"], [("a", 0, 3, "a"), ("a", 4, 4, "a")])
        self.assertEqual(self.check_pair(thirds, without), ("a", "a", 4))

    def test_none_tells_of_all_changes(self):
        rng = random.Random(49)
        for program in hard_programs():
            other = Program(program.places(), program.moves()[::-1])
            self.assertIsNone(unlike(program, other))
            for _ in range(40):
                place, last = rng.choice(NAMES), rng.choice(NAMES)
                change = rng.choice([-1, 1]) * rng.choice([rng.randint(0, 3000), 10 ** 39 + rng.randint(0, 3000)])
                self.assertEqual(least_for(program, place, last, change), least_for(other, place, last, change))

    def test_beyond_is_of_runs_and_counters(self):
        guarded = Program(["a"], [("a", 5, 1, "a")])
        free = Program(["a"], [("a", 0, 1, "a")])
        self.assertEqual((beyond(free, guarded), beyond(guarded, free), unlike(guarded, free)),
                         (("a", "a", 1), None, ("a", "a", 1)))

    def test_errors(self):
        for called in (unlike, beyond):
            for value in some_values():
                if not isinstance(value, Program):
                    for first, second in [(value, value), (value, mill()), (value, None)]:
                        with self.assertRaises(InvalidProgram) as caught:
                            called(first, second)
                        self.assertIs(caught.exception.value, value)
                    with self.assertRaises(InvalidProgram) as caught:
                        called(mill(), value)
                    self.assertIs(caught.exception.value, value)
            for places in [["down", "up"], ["up"], ["up", "down", "far"], ["up", "dow"]]:
                other = Program(places, [])
                with self.assertRaises(InvalidProgram) as caught:
                    called(mill(), other)
                self.assertIs(caught.exception.value, other)


class JoinedTests(unittest.TestCase):
    def check_rows(self, program, other, asked, need):
        place, middle, last, change = asked
        told = joined_rows(program, other, *asked)
        self.assertIsInstance(told, tuple)
        first, second = told
        between = led(program, place, need, first)
        self.assertIsNotNone(between, (program.moves(), other.moves(), asked, need))
        self.assertEqual(between[0], middle)
        check_told_row(self, program, (place, need), first, between)
        check_told_row(self, other, between, second, (last, need + change))
        self.assertEqual(change_of(program, first) + change_of(other, second), change)
        self.assertEqual(len({id(part[1]) for part in first + second}), len(first) + len(second))
        self.assertIsNot(first, second)

    def can_be_joined(self, program, other, asked, counter):
        place, middle, last, change = asked
        if counter + change < 0:
            return False
        high = max(counter, counter + change) + 2 * CLIMB
        ahead = ends_by_search(program.moves(), place, counter, high)
        behind = ends_by_search(turned_moves(other.moves()), last, counter + change, high)
        return any(at == middle for at, _ in ahead & behind)

    def check_small(self, program, other, asked):
        need = joined(program, other, *asked)
        told = (program.moves(), other.moves(), asked, need)
        if need is None:
            self.assertIsNone(joined_rows(program, other, *asked), told)
            for counter in [0, 8, 30, 90]:
                self.assertFalse(self.can_be_joined(program, other, asked, counter), told)
            return
        self.assertTrue(self.can_be_joined(program, other, asked, need), told)
        if need > 0:
            self.assertFalse(self.can_be_joined(program, other, asked, need - 1), told)
        self.check_rows(program, other, asked, need)

    def drawn_pair(self, rng):
        program, other = [rng.choice([drawn_program, drawn_climber, drawn_full_program])(rng) for _ in range(2)]
        common = [place for place in program.places() if place in other.places()]
        return program, other, [rng.choice(program.places()), rng.choice(common), rng.choice(other.places())]

    def test_small_changes_against_a_search(self):
        rng = random.Random(50)
        for _ in range(80):
            program, other, places = self.drawn_pair(rng)
            for change in [rng.randint(-60, 60), rng.randint(-9, 9), 0]:
                self.check_small(program, other, (*places, change))

    def least_by_splits(self, program, other, asked, far):
        place, middle, last, change = asked
        found = []
        for first in range(min(0, change) - far, max(0, change) + far + 1):
            need, rest = least_for(program, place, middle, first), least_for(other, middle, last, change - first)
            if need is not None and rest is not None:
                found.append(max(need, rest - first))
        return min(found, default=None)

    def test_all_splits_of_greater_changes(self):
        rng = random.Random(51)
        programs = hard_programs()
        for _ in range(25):
            program, other, places = self.drawn_pair(rng)
            if rng.random() < 0.5:
                program, other, places = rng.choice(programs), rng.choice(programs), [rng.choice(NAMES) for _ in range(3)]
            for change in [rng.randint(300, 900), -rng.randint(300, 900)]:
                asked = (*places, change)
                need = joined(program, other, *asked)
                self.assertEqual(need, self.least_by_splits(program, other, asked, 1200), (program.moves(), other.moves(), asked))
                if need is not None:
                    self.check_rows(program, other, asked, need)

    def test_great_changes(self):
        rng = random.Random(52)
        programs = hard_programs()
        found = 0
        for _ in range(60):
            program, other, places = self.drawn_pair(rng)
            if rng.random() < 0.7:
                program, other, places = rng.choice(programs), rng.choice(programs), [rng.choice(NAMES) for _ in range(3)]
            place, middle, last = places
            # Great joined changes come again by what both programs' great changes come again by.
            step = lcm(*[steps_of(one, *way)[1] for one, way in [(program, (place, middle)), (other, (middle, last))]])
            for sign in (1, -1):
                change = sign * (2000 + rng.randint(0, 400))
                great = change + sign * (10 ** 39 // step + rng.randint(0, 99)) * step
                need, far = [joined(program, other, *places, much) for much in (change, great)]
                self.assertEqual(need if sign > 0 or need is None else need + change,
                                 far if sign > 0 or far is None else far + great, (program.moves(), other.moves(), places))
                if far is None:
                    self.assertIsNone(joined_rows(program, other, *places, great))
                else:
                    self.check_rows(program, other, (*places, great), far)
                    found += 1
        self.assertGreater(found, 30)

    def test_known_ones(self):
        up = Program(["a", "b"], [("a", 0, 4, "a"), ("a", 8, 0, "b")])
        down = Program(["b", "c"], [("b", 4, -4, "b"), ("b", 0, 1, "c")])
        self.assertEqual([joined(up, down, "a", "b", "c", change) for change in (1, -3, -7, 2, 5, -4 * 10 ** 39 + 1)],
                         [0, 4, 8, None, 0, 4 * 10 ** 39])
        self.assertEqual([joined(up, down, "b", "b", "b", change) for change in (0, -4, 4, -2)], [0, 4, None, None])
        self.assertEqual(joined_rows(up, down, "b", "b", "b", 0), ([], []))
        self.assertIsNone(joined_rows(up, down, "b", "b", "b", 4))
        first, second = joined_rows(up, down, "a", "b", "c", 4 * 10 ** 39 - 3)
        self.assertEqual(led(down, "b", led(up, "a", 0, first)[1], second), ("c", 4 * 10 ** 39 - 3))

    def test_what_the_second_needs_the_first_has_to_bring(self):
        bring = Program(["a", "b"], [("a", 3, 1, "a"), ("a", 0, 0, "b")])
        take = Program(["b", "c"], [("b", 8, -4, "b"), ("b", 0, 0, "c")])
        self.assertEqual([joined(bring, take, "a", "b", "c", change) for change in (0, -4, -5, 3, -40)], [0, 8, 9, 3, 44])
        self.assertEqual(joined(take, take, "b", "b", "c", -4), 8)
        self.check_rows(bring, take, ("a", "b", "c", -4 * 10 ** 38), joined(bring, take, "a", "b", "c", -4 * 10 ** 38))

    def test_one_program_behind_itself(self):
        rng = random.Random(53)
        for program in hard_programs():
            place, last = rng.choice(NAMES), rng.choice(NAMES)
            for change in [0, 5, -7, 10 ** 39, -10 ** 39]:
                whole = least_for(program, place, last, change)
                self.assertEqual(joined(program, program, place, place, last, change), whole)
                self.assertEqual(joined(program, program, place, last, last, change), whole)

    def test_errors_in_order(self):
        first, second = Program(["a", "b"], []), Program(["b", "c"], [])
        right = [first, second, "a", "b", "c", 0]
        kinds = [InvalidProgram, InvalidProgram, UnknownName, UnknownName, UnknownName, InvalidNumber]
        for called in (joined, joined_rows):
            self.assertIsNone(called(*right))
            for value in some_values():
                for at, kind in enumerate(kinds):
                    if kind is InvalidProgram and isinstance(value, Program) or value in ("a", "b", "c"):
                        continue
                    if kind is InvalidNumber and type(value) is int:
                        continue
                    for behind in [right[at + 1:], [value] * (5 - at), [None] * (5 - at)]:
                        if at == 0:
                            behind[0] = behind[0] if isinstance(behind[0], Program) else None
                        # Both programs are looked at ahead of the places.
                        arguments = right[:at] + [value] + behind
                        with self.assertRaises(kind) as caught:
                            called(*arguments)
                        held = caught.exception.name if kind is UnknownName else caught.exception.value
                        self.assertIs(held, value, (at, arguments))

    def test_places_of_one_of_the_two(self):
        first, second = Program(["a", "b"], []), Program(["b", "c"], [])
        for called in (joined, joined_rows):
            for places, held in [(("c", "b", "c"), "c"), (("a", "a", "c"), "a"), (("a", "c", "c"), "c"), (("a", "b", "a"), "a"),
                                 (("c", "a", "a"), "c"), (("a", "a", "b"), "a"), (("a", "d", "a"), "d")]:
                with self.assertRaises(UnknownName) as caught:
                    called(first, second, *places, True)
                self.assertEqual(caught.exception.name, held)
            with self.assertRaises(InvalidProgram) as caught:
                called(first, "second", "none", "none", "none", None)
            self.assertEqual(caught.exception.value, "second")
            with self.assertRaises(InvalidNumber) as caught:
                called(first, second, "a", "b", "c", True)
            self.assertIs(caught.exception.value, True)


class GeneralTests(unittest.TestCase):
    def test_seconds(self):
        programs = hard_programs()
        for one, two in zip(programs, programs[1:] + programs[:1]):
            first, second = [Program(program.places(), program.moves()) for program in (one, two)]
            mixed = Program(one.places(), one.moves()[::-1])
            began = time.perf_counter()
            for called in [lambda: turned(first), lambda: unlike(first, second), lambda: unlike(first, mixed),
                           lambda: beyond(first, mixed), lambda: joined(first, second, "a", "c", "d", GREAT),
                           lambda: joined_rows(first, second, "d", "b", "a", -GREAT)]:
                called()
            self.assertLess(time.perf_counter() - began, 5)

    def test_steps_without_a_common_divisor(self):
        steps = [Program(["a", "b"], ring(["a", "b"], [4, 3])), Program(["a", "b", "c"], ring(["a", "b", "c"], [4, 4, 3]))]
        began = time.perf_counter()
        for change in [0, 7, 10, 11, 59, 60, 61, 10 ** 39, 10 ** 39 + 1]:
            parts = any(7 * times <= change and (change - 7 * times) % 11 == 0 for times in range(11))
            self.assertEqual(joined(*steps, "a", "a", "a", change), 0 if parts else None)
            self.assertEqual(joined(*[turned(step) for step in steps], "a", "a", "a", -change), change if parts else None)
        self.assertLess(time.perf_counter() - began, 5)

    def test_equal_calls_give_equal_results_and_new_lists(self):
        program, other = hard_programs()[5], hard_programs()[7]
        for asked in [("a", "c", "d", 10 ** 30), ("a", "c", "d", -50), ("b", "b", "a", -10 ** 30)]:
            told = joined_rows(program, other, *asked)
            kept = copy.deepcopy(told)
            for row in told or ():
                for _, numbers in row:
                    numbers.append(99)
                row.append(None)
            unlike(program, other)
            self.assertEqual(joined_rows(program, other, *asked), kept)
            again = [Program(one.places(), one.moves()) for one in (program, other)]
            self.assertEqual(joined_rows(*again, *asked), kept)
            self.assertEqual([program, other], again)


if __name__ == "__main__":
    unittest.main()
