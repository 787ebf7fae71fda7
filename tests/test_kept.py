"""Tests of promises [30], [31] and [32], and of [2] and [3] for closed sets of numbers."""

import copy
import random
import time
import unittest
from math import lcm

from floorwalks.begins import least_for
from floorwalks.errors import InvalidItem, InvalidList, InvalidNumber, InvalidProgram, UnknownName
from floorwalks.kept import ends_of, holds, is_kept
from floorwalks.programs import Program

from drawn import (NAMES, drawn_full_program, drawn_program, ends_by_search, hard_programs, mill, numbers_up_to, ring,
                   some_values, turned_moves)

# A shortest run climbs at most this much above its begin and its end (256 ways to pass a level, and 11).
CLIMB = 270
GREAT = 10 ** 40 - 7
STEPS_OF_240 = [step for step in range(1, 241) if 240 % step == 0]


def bent_stretches():
    """What looks like a stretch and is none, in one thing each."""
    bent = [[2, 3, 4], (2, 3), (2, 3, 4, 5), (), (2,), ((2, 3, 4),), {2: 3}, "abc", None, 7]
    bent += [(first, 3, 4) for first in (-1, -10 ** 40, True, False, None, "2", (2,), [2])]
    bent += [(2, step, 4) for step in (0, -1, -10 ** 40, True, False, None, "3", (3,), [3])]
    bent += [(2, 3, many) for many in (0, -1, -10 ** 40, True, False, "4", (4,), [4], ())]
    return bent


def closed_by_search(program, value):
    """Whether a value of the right shape is closed, number by number up to where all goes on as before."""
    step = lcm(*[step for _, stretches in value for _, step, _ in stretches])
    lasts = [first + (0 if many is None else many - 1) * step
             for _, stretches in value for first, step, many in stretches]
    most = max(lasts, default=0) + 2 * step + 20
    held = {place: numbers_up_to(stretches, most + 4) for place, stretches in value}
    return all(number + change in held[other] for place, least, change, other in program.moves()
               for number in held[place] if least <= number <= most)


class HoldsTests(unittest.TestCase):
    def test_examples(self):
        told = ends_of(mill(), "down", 10 ** 30)
        self.assertEqual([holds(told[1][1], 4), holds(told[1][1], 6)], [True, False])

    def test_edges_of_stretches(self):
        self.assertEqual([number for number in range(-30, 60) if holds([(5, 4, 3)], number)], [5, 9, 13])
        self.assertEqual([number for number in range(-30, 60) if holds([(7, 9, 1)], number)], [7])
        self.assertEqual([number for number in range(-30, 20) if holds([(3, 5, None)], number)], [3, 8, 13, 18])
        self.assertEqual([number for number in range(-9, 9) if holds([(0, 1, None)], number)], list(range(9)))
        self.assertEqual([number for number in range(-9, 9) if holds([], number)], [])
        for number in (-1, -4, -GREAT):
            self.assertIs(holds([(0, 4, None), (0, 1, None)], number), False)

    def test_great_numbers(self):
        far = [(GREAT, 10 ** 39, 10 ** 40), (3, 10 ** 40, None), (7, 12, 10 ** 39)]
        for number, told in [(GREAT, True), (GREAT - 10 ** 39, False), (GREAT + 10 ** 39, True), (GREAT + 1, False),
                             (GREAT + 10 ** 39 * (10 ** 40 - 1), True), (GREAT + 10 ** 79, False), (3, True),
                             (3 + 7 * 10 ** 40, True), (7 + 12 * (10 ** 39 - 1), True), (7 + 12 * 10 ** 39, False)]:
            self.assertIs(holds(far, number), told, number)

    def test_against_numbers_written_out(self):
        rng = random.Random(30)
        for _ in range(200):
            stretches = [(rng.randint(0, 30), rng.randint(1, 12), rng.choice([None, 1, 1, 2, 7])) for _ in range(rng.randint(0, 6))]
            held = numbers_up_to(stretches, 150)
            for number in range(-20, 150):
                self.assertIs(holds(stretches, number), number in held, (stretches, number))

    def test_lists_of_a_thousand(self):
        rng = random.Random(31)
        stretches = [(rng.randint(0, 10 ** 40), rng.randint(1, 10 ** 40), 1) for _ in range(960)]
        stretches += [(rng.randint(0, 10 ** 39), rng.choice(STEPS_OF_240[6:]), None) for _ in range(40)]
        began = time.perf_counter()
        for number in [stretches[0][0], stretches[999][0] + 240 * 10 ** 30, -1, GREAT]:
            self.assertIs(holds(stretches, number), any(
                number == first or (many is None and number >= first and (number - first) % step == 0)
                for first, step, many in stretches))
        self.assertLess(time.perf_counter() - began, 2)

    def test_what_may_stand_in_lists(self):
        for item in [(0, 1, 1), (0, 1, None), (10 ** 40, 10 ** 40, 10 ** 40)]:
            self.assertIs(holds([item], item[0]), True)
        self.assertIs(holds(stretches=[(2, 3, 2)], number=5), True)


class HoldsErrorTests(unittest.TestCase):
    def raised(self, error, stretches, number):
        with self.assertRaises(error) as caught:
            holds(stretches, number)
        self.assertIs(caught.exception.__class__, error)
        return caught.exception.value

    def test_no_list(self):
        for value in some_values() + [((2, 3, 4),)]:
            if not isinstance(value, list):
                for number in [3, value, None]:
                    self.assertIs(self.raised(InvalidList, value, number), value)

    def test_items(self):
        for item in some_values() + bent_stretches():
            for number in [3, None, True, -1]:
                self.assertIs(self.raised(InvalidItem, [item], number), item)
                self.assertIs(self.raised(InvalidItem, [(0, 1, None), item, [], None], number), item)

    def test_numbers(self):
        for value in some_values() + [(3,), [3]]:
            if isinstance(value, bool) or not isinstance(value, int):
                self.assertIs(self.raised(InvalidNumber, [(0, 1, None)], value), value)
                self.assertIs(self.raised(InvalidNumber, [], value), value)


class EndsTests(unittest.TestCase):
    def check_shape(self, program, told):
        self.assertIsInstance(told, list)
        self.assertEqual([other for other, _ in told], program.places())
        self.assertEqual(len({id(stretches) for _, stretches in told}), len(told))
        for item in told:
            self.assertIsInstance(item, tuple)
            self.assertLessEqual(len(item[1]), 3000)
            for stretch in item[1]:
                first, step, many = stretch
                self.assertTrue(isinstance(stretch, tuple) and type(first) is type(step) is int and first >= 0 and step >= 1)
                self.assertTrue(many is None or type(many) is int and many >= 1)
                self.assertTrue(many == 1 or step <= 1000)

    def test_small_counters_against_a_search(self):
        rng = random.Random(32)
        for program in hard_programs() + [drawn_full_program(rng) for _ in range(6)] + [drawn_program(rng) for _ in range(60)]:
            for counter in [rng.randint(0, 20), rng.randint(200, 700)]:
                place = rng.choice(program.places())
                found = ends_by_search(program.moves(), place, counter, counter + 400 + CLIMB)
                told = ends_of(program, place, counter)
                self.check_shape(program, told)
                for other, stretches in told:
                    ends = {end for at, end in found if at == other and end <= counter + 400}
                    self.assertEqual(numbers_up_to(stretches, counter + 400), ends, (program.moves(), place, counter, other))

    def test_great_counters_against_the_least_begins(self):
        rng = random.Random(33)
        for program in hard_programs() + [drawn_full_program(rng) for _ in range(4)]:
            place = rng.choice(NAMES)
            for counter in [rng.randint(560, 580), GREAT]:
                told = ends_of(program, place, counter)
                self.check_shape(program, told)
                middle = rng.randint(0, counter)
                for other, stretches in told:
                    for low in [0, 150, 300, middle, counter - 450, counter - 300, counter - 150, counter, counter + 150,
                                counter + 300, counter + 450, 3 * counter, 10 ** 41]:
                        for end in range(low, low + 150, rng.randint(2, 5)):
                            least = least_for(program, place, other, end - counter)
                            self.assertIs(holds(stretches, end), least is not None and least <= counter,
                                          (program.moves(), place, counter, other, end))

    def test_where_little_lies_between_both_sides(self):
        rng = random.Random(41)
        for program in hard_programs()[4:9]:
            for counter in rng.sample(range(566, 660), 12):
                place, other = rng.choice(NAMES), rng.choice(NAMES)
                told = ends_of(program, place, counter)
                self.check_shape(program, told)
                leasts = [least_for(program, place, other, end - counter) for end in range(counter + 500)]
                self.assertEqual(numbers_up_to(dict(told)[other], counter + 499),
                                 {end for end, least in enumerate(leasts) if least is not None and least <= counter},
                                 (program.moves(), place, counter, other))

    def test_what_comes_again_is_told_at_once(self):
        for counter in [9, 569, 700, GREAT]:
            for other, stretches in ends_of(mill(), "down", counter) + ends_of(mill(), "up", counter):
                self.assertLessEqual(len(stretches), 9, (counter, other))

    def test_what_is_told_is_kept(self):
        rng = random.Random(34)
        for program in hard_programs() + [drawn_program(rng) for _ in range(60)]:
            for counter in [0, rng.randint(1, 20), rng.randint(500, 700), GREAT]:
                self.assertIs(is_kept(program, ends_of(program, rng.choice(program.places()), counter)), True)

    def test_no_moves(self):
        bare = Program(["a", "b"], [])
        for counter in [0, 5, 800, GREAT]:
            told = ends_of(bare, "a", counter)
            self.check_shape(bare, told)
            self.assertEqual(told[1], ("b", []))
            self.assertTrue(holds(told[0][1], counter))
            self.assertFalse(any(holds(told[0][1], counter + more) for more in range(-500, 900) if more != 0))

    def test_new_lists_and_equal_results(self):
        program = mill()
        told = ends_of(program, "down", 10 ** 30)
        again = copy.deepcopy(told)
        told[1][1].append((0, 1, None))
        told.pop()
        least_for(program, "up", "up", 9)
        self.assertEqual(ends_of(program, "down", 10 ** 30), again)
        self.assertEqual(ends_of(mill(), "down", 10 ** 30), again)
        self.assertEqual(ends_of(program=mill(), place="down", counter=10 ** 30), again)

    def test_seconds(self):
        for program in hard_programs():
            fresh = Program(program.places(), program.moves())
            began = time.perf_counter()
            for counter in [0, GREAT]:
                is_kept(fresh, ends_of(fresh, "a", counter))
            self.assertLess(time.perf_counter() - began, 3)

    def test_errors(self):
        for value in some_values():
            for called in [lambda: ends_of(value, value, value), lambda: ends_of(value, "up", 3)]:
                if not isinstance(value, Program):
                    with self.assertRaises(InvalidProgram) as caught:
                        called()
                    self.assertIs(caught.exception.value, value)
            if value != "up":
                with self.assertRaises(UnknownName) as caught:
                    ends_of(mill(), value, value)
                self.assertIs(caught.exception.name, value)
            if isinstance(value, bool) or not isinstance(value, int) or value < 0:
                with self.assertRaises(InvalidNumber) as caught:
                    ends_of(mill(), "up", value)
                self.assertIs(caught.exception.value, value)


class KeptTests(unittest.TestCase):
    def test_example(self):
        program = mill()
        told = ends_of(program, "down", 10 ** 30)
        self.assertEqual(
            [is_kept(program, told), holds(told[1][1], 4), holds(told[1][1], 6),
             is_kept(program, [("up", []), ("down", [(0, 4, None)])]),
             is_kept(program, [("up", [(0, 3, None)]), ("down", [(1, 4, None)])])],
            [True, True, False, True, False])

    def test_other_shapes(self):
        right = [("up", []), ("down", [(0, 4, None)])]
        self.assertIs(is_kept(program=mill(), value=right), True)
        wrong = [tuple(right), right[:1], right[::-1], right + [("far", [])], right + right[:1], dict(right), [right],
                 [list(item) for item in right], [right[0], ("down",)], [right[0], ("down", [], [])],
                 [right[0], ("Down", [])], [right[0], (["down"], [])], [right[0], (None, [])], [right[0], ([], "down")],
                 [right[0], ("down", ((0, 4, None),))], [right[0], ("down", {})], [right[0], ("down", None)],
                 [right[0], ("down", (0, 4, None))], [(True, []), right[1]], [("up", "down"), right[1]]]
        for value in wrong + some_values():
            self.assertIs(is_kept(mill(), value), False, value)
        bare = Program(["a"], [])
        for value in some_values():
            self.assertIs(is_kept(bare, value), False)
            self.assertIs(is_kept(bare, [value]), False)
            self.assertIs(is_kept(bare, [(value, [])]), value == "a")
            self.assertIs(is_kept(bare, [("a", value)]), value == [] and isinstance(value, list))
            self.assertIs(is_kept(bare, [("a", [value])]), False)
        for stretch in bent_stretches():
            self.assertIs(is_kept(bare, [("a", [(2, 3, 4), stretch])]), False, stretch)

    def test_program(self):
        for value in some_values():
            if not isinstance(value, Program):
                with self.assertRaises(InvalidProgram) as caught:
                    is_kept(value, value)
                self.assertIs(caught.exception.value, value)

    def test_a_guard_is_kept_to(self):
        high = Program(["a", "b"], [("a", 6, 2, "b")])
        self.assertTrue(is_kept(high, [("a", [(0, 1, 6)]), ("b", [])]))
        self.assertFalse(is_kept(high, [("a", [(0, 1, 7)]), ("b", [])]))
        self.assertTrue(is_kept(high, [("a", [(0, 1, 7)]), ("b", [(8, 5, 1)])]))
        self.assertTrue(is_kept(high, [("a", [(0, 3, None)]), ("b", [(8, 3, None)])]))
        self.assertTrue(is_kept(high, [("a", [(1, 4, None)]), ("b", [(11, 4, None)])]))
        self.assertFalse(is_kept(high, [("a", [(1, 4, None)]), ("b", [(15, 4, None)])]))
        self.assertTrue(is_kept(high, [("a", [(1, 4, None)]), ("b", [(15, 4, None), (11, 9, 1)])]))

    def test_single_numbers_at_a_guard(self):
        high = Program(["a", "b"], [("a", 6, 2, "b")])
        for many in (1, None):
            self.assertTrue(is_kept(high, [("a", [(5, 1, 1), (0, 1, 1)]), ("b", [])]))
            self.assertFalse(is_kept(high, [("a", [(6, 9, many)]), ("b", [])]))
            self.assertTrue(is_kept(high, [("a", [(6, 9, many)]), ("b", [(8, 9, many)])]))
            self.assertFalse(is_kept(high, [("a", [(6, 9, many)]), ("b", [(7, 9, many)])]))
            self.assertFalse(is_kept(high, [("a", [(6, 9, many), (7, 1, 1)]), ("b", [(8, 9, many)])]))

    def test_one_number_less_and_one_too_many(self):
        up = Program(["a", "b"], [("a", 0, 0, "b")])
        many = 10 ** 39
        self.assertTrue(is_kept(up, [("a", [(5, 12, many)]), ("b", [(5, 4, 3 * many - 2)])]))
        self.assertFalse(is_kept(up, [("a", [(5, 12, many)]), ("b", [(5, 4, 3 * many - 3)])]))
        self.assertFalse(is_kept(up, [("a", [(5, 12, many)]), ("b", [(9, 4, 3 * many)])]))
        self.assertTrue(is_kept(up, [("a", [(5, 12, many)]), ("b", [(9, 4, 3 * many), (5, 1, 1)])]))
        self.assertFalse(is_kept(up, [("a", [(5, 12, None)]), ("b", [(5, 4, 3 * many)])]))
        # A gap of one number far away, and what fills it.
        parts = [(5, 4, many), (5 + 4 * many + 4, 4, None)]
        self.assertFalse(is_kept(up, [("a", [(5, 4, None)]), ("b", parts)]))
        self.assertTrue(is_kept(up, [("a", [(5, 4, None)]), ("b", parts + [(5 + 4 * many, 77, 1)])]))
        self.assertTrue(is_kept(up, [("a", [(5, 8, None)]), ("b", parts)]) == (many % 2 == 1))
        self.assertTrue(is_kept(up, [("a", [(5, 4, None)]), ("b", [(5, 4, many + 1)] + parts)]))

    def test_rests_that_fill_each_other(self):
        up = Program(["a", "b"], [("a", 0, 0, "b")])
        all_numbers = [("a", [(0, 1, None)])]
        self.assertTrue(is_kept(up, all_numbers + [("b", [(0, 2, None), (1, 4, None), (3, 8, None), (7, 8, None)])]))
        self.assertFalse(is_kept(up, all_numbers + [("b", [(0, 2, None), (1, 4, None), (3, 8, None), (15, 16, None)])]))
        self.assertFalse(is_kept(up, all_numbers + [("b", [(0, 2, None), (1, 4, None), (11, 8, None), (7, 8, None)])]))
        self.assertTrue(is_kept(up, all_numbers + [("b", [(0, 2, None), (1, 4, None), (11, 8, None), (7, 8, None), (3, 9, 1)])]))
        cover = [(0, 2, None), (0, 3, None), (1, 4, None), (5, 6, None), (7, 12, None)]
        self.assertTrue(is_kept(up, all_numbers + [("b", cover)]))
        for at in range(len(cover)):
            self.assertFalse(is_kept(up, all_numbers + [("b", cover[:at] + cover[at + 1:])]))

    def parted(self, rng, stretch, depth):
        """Stretches that hold what a stretch holds, parted by rests and at some numbers, and perhaps some more."""
        first, step, many = stretch
        if depth == 0 or many is not None and many <= 3:
            return [stretch]
        kind = rng.random()
        if kind < 0.4:
            part = rng.choice([2, 2, 3])
            parts = [(first + at * step, part * step, None if many is None else (many - 1 - at) // part + 1)
                     for at in range(part)]
        elif kind < 0.7:
            ahead = rng.randint(1, 3)
            parts = [(first, step, ahead), (first + ahead * step, step, None if many is None else many - ahead)]
        else:
            finer = rng.choice([divisor for divisor in range(1, step + 1) if step % divisor == 0])
            parts = [(first, finer, None if many is None else (many - 1) * (step // finer) + 1)]
        return [piece for part in parts for piece in self.parted(rng, part, depth - 1)]

    def test_parted_stretches_against_a_search(self):
        rng = random.Random(40)
        told = {True: 0, False: 0}
        for _ in range(1500):
            least, change = rng.choice([(0, 0), (0, 3), (4, -4), (7, 1), (8, -2)])
            up = Program(["a", "b"], [("a", least, change, "b")])
            first, step, many = rng.randint(0, 40), rng.choice([1, 2, 3, 4, 6]), rng.choice([None, None, 2, 5, 12, 40])
            ahead = max(0, -((first - least) // step))
            held = []
            if many is None or many > ahead:
                whole = (first + ahead * step + change, step, None if many is None else many - ahead)
                held = self.parted(rng, whole, 2)
            if held and rng.random() < 0.6:
                at = rng.randrange(len(held))
                begin, by, number = held[at]
                held[at:at + 1] = rng.choice([[], [(begin + by, by, number)], [(begin, by, 1), (begin + 2 * by, by, number)],
                                              [(begin, by, number or 9)], [(begin, 2 * by, number), (begin + by, 2 * by, number)]])
            rng.shuffle(held)
            value = [("a", [(first, step, many)]), ("b", held)]
            kept = is_kept(up, value)
            self.assertIs(kept, closed_by_search(up, value), (up.moves(), value))
            told[kept] += 1
        self.assertGreater(min(told.values()), 300)

    def test_drawn_values_against_a_search(self):
        rng = random.Random(35)
        told = {True: 0, False: 0}
        for _ in range(700):
            program = drawn_program(rng)
            few = rng.choice([1, 2, 5])
            value = [(place, [(rng.randint(0, 40), rng.choice([1, 1, 2, 3, 4, 5, 6]), rng.choice([None, None, 1, 2, 3, 30]))
                              for _ in range(rng.randint(0, few))]) for place in program.places()]
            kept = is_kept(program, value)
            self.assertIs(kept, closed_by_search(program, value), (program.moves(), value))
            told[kept] += 1
        self.assertGreater(min(told.values()), 60)

    def bent(self, rng, value):
        """A copy of what ends_of tells with one number changed, or a stretch left out or put in."""
        value = [(place, list(stretches)) for place, stretches in value]
        stretches = rng.choice([stretches for _, stretches in value if stretches])
        at = rng.randrange(len(stretches))
        first, step, many = stretches[at]
        stretches[at:at + 1] = rng.choice([
            [], [(first + step, step, many)], [(first + 1, step, many)], [(max(0, first - 1), step, many)],
            [(first, step + 1, many)], [(first, step, 2 if many is None else many + 1)], [(first, step, None)],
            [(first, 2 * step, many), (first + 2 * step, step, many)], [(first, step, many), (rng.randint(0, 300), 1, 1)],
            [(first, step, 1), (first, step, many)], [(first, step, many)] * 2])
        return value

    def test_told_values_that_are_bent_against_a_search(self):
        rng = random.Random(36)
        told = {True: 0, False: 0}
        for program in hard_programs() + [drawn_program(rng) for _ in range(40)]:
            place = rng.choice(program.places())
            for counter in [rng.randint(0, 30), rng.randint(300, 600)]:
                for _ in range(3):
                    value = self.bent(rng, ends_of(program, place, counter))
                    kept = is_kept(program, value)
                    self.assertIs(kept, closed_by_search(program, value), (program.moves(), value))
                    told[kept] += 1
        self.assertGreater(min(told.values()), 40)

    def test_several_told_values_put_together(self):
        rng = random.Random(37)
        for program in hard_programs():
            began = time.perf_counter()
            told = [ends_of(program, place, rng.choice([rng.randint(0, 900), GREAT - rng.randint(0, 900)])) for place in NAMES]
            value = [(place, sum([value[at][1] for value in told], [])) for at, place in enumerate(NAMES)]
            self.assertIs(is_kept(program, value), True)
            for _, stretches in value:
                stretches.append((0, 1, None))
            self.assertIs(is_kept(program, value), True)
            value[0][1].remove((0, 1, None))
            value[0][1].append((2 * GREAT, 977, None))
            self.assertIn(is_kept(program, value), (True, False))
            self.assertLess(time.perf_counter() - began, 4)

    def test_one_number_is_missed(self):
        rng = random.Random(38)
        for program in [mill()] + hard_programs():
            place = program.places()[0]
            counter = 10 ** 39 + rng.randint(0, 99)
            # Behind the first move there is a number that has to be there.
            move = next((move for move in program.moves() if move[0] == place), None)
            at, number = program.places().index(move[3]), counter + move[2]
            if (move[3], number) == (place, counter):
                continue
            value = ends_of(program, place, counter)
            self.assertIs(is_kept(program, value), True)
            value[at] = (move[3], self.without(value[at][1], number))
            self.assertIs(is_kept(program, value), False)

    def without(self, stretches, number):
        parts = []
        for first, step, many in stretches:
            ahead = (number - first) // step
            if holds([(first, step, many)], number):
                if ahead > 0:
                    parts.append((first, step, ahead))
                if many is None or many > ahead + 1:
                    parts.append((number + step, step, None if many is None else many - ahead - 1))
            else:
                parts.append((first, step, many))
        return parts

    def test_lists_of_a_thousand(self):
        rng = random.Random(39)
        loops = Program(NAMES, ring(NAMES, [4, -4, 3, -3]) + [("a", 8, 0, name) for name in NAMES] + [("b", 4, -4, "b")])
        for steps in [STEPS_OF_240, [240], [16, 15], [2, 3, 5], [1]]:
            runs = [(rng.randint(0, 10 ** 4), rng.choice(steps), rng.choice([None, rng.randint(2, 10 ** 40)])) for _ in range(39)]
            singles = [(rng.randint(0, 10 ** 4), rng.randint(1, 10 ** 40), 1) for _ in range(960)]
            mixed = runs + singles + [(8, 1, None)]
            rng.shuffle(mixed)
            began = time.perf_counter()
            self.assertIs(is_kept(Program(NAMES, [("a", 0, 0, "b")] * 10), [(place, list(mixed)) for place in NAMES]), True)
            self.assertIs(is_kept(loops, [(place, list(mixed)) for place in NAMES]),
                          self.is_above_kept(loops, mixed))
            self.assertLess(time.perf_counter() - began, 4)

    def is_above_kept(self, program, stretches):
        # All numbers from 8 on are held, so only what is below can lead out.
        held = numbers_up_to(stretches, 40)
        return all(number + change in held for _, least, change, _ in program.moves() for number in held
                   if least <= number <= 20)

    def test_steps_that_have_little_in_common(self):
        up = Program(["a", "b"], [("a", 0, 0, "b")])
        began = time.perf_counter()
        primes = [2, 3, 5, 7, 11, 13, 17, 19, 23, 29, 31, 37]
        held = [(0, prime, None) for prime in primes]
        self.assertFalse(is_kept(up, [("a", [(0, 1, None)]), ("b", held)]))
        self.assertFalse(is_kept(up, [("a", [(0, 1, 10 ** 40)]), ("b", held + [(number, 1, 1) for number in range(900)])]))
        self.assertTrue(is_kept(up, [("a", [(0, 2 * prime, None) for prime in primes]), ("b", held[1:] + [(0, 4, None), (2, 4, None)])]))
        self.assertTrue(is_kept(up, [("a", [(1, 6, None)]), ("b", [(1, 3, None), (0, 10 ** 40, None)])]))
        self.assertFalse(is_kept(up, [("a", [(0, 1, None)]), ("b", [(0, 10 ** 40, None), (1, 10 ** 39, None)])]))
        self.assertTrue(is_kept(up, [("a", [(0, 1, 41)]), ("b", held + [(1, 1, 1)])]))
        self.assertFalse(is_kept(up, [("a", [(0, 1, 42)]), ("b", held + [(1, 1, 1)])]))
        self.assertTrue(is_kept(up, [("a", [(0, 1, 10 ** 40)]), ("b", held + [(at, 6, None) for at in (1, 5)])]))
        self.assertLess(time.perf_counter() - began, 4)

    def test_turned_programs_keep_what_can_come_there(self):
        for program in hard_programs()[:4]:
            back = Program(program.places(), turned_moves(program.moves()))
            self.assertIs(is_kept(back, ends_of(back, "b", 700)), True)

    def test_arguments_are_left_alone(self):
        value = [("up", [(0, 3, None)]), ("down", [(1, 4, None), (3, 7, 1)])]
        kept, program = copy.deepcopy(value), mill()
        for _ in range(2):
            self.assertIs(is_kept(program, value), False)
            self.assertIs(holds(value[1][1], 3), True)
        self.assertEqual((value, program), (kept, mill()))


if __name__ == "__main__":
    unittest.main()
