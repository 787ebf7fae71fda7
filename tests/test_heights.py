"""Tests of promises [40], [41] and [42], and of [2] and [3] for what goes on for ever and for ceilings."""

import copy
import random
import time
import unittest

from floorwalks.ends import comes_to
from floorwalks.errors import InvalidNumber, InvalidProgram, InvalidRow, UnknownName
from floorwalks.heights import endless, least_endless, least_top, longest, row_below, top_of
from floorwalks.programs import Program
from floorwalks.rows import change_of, is_row, led, need_of

from drawn import (NAMES, check_told_row, drawn_climber, drawn_full_program, drawn_program, ends_by_search, hard_programs,
                   mill, ring, some_values, written_out)

GREAT = 10 ** 40 - 7
# No run of which each place comes again with a lesser counter is longer, from counters of up to 1,000.
LONGEST = 4200


def pit():
    return Program(["a", "b"], [("a", 4, -4, "b"), ("b", 0, 3, "a"), ("a", 7, 1, "a")])


def needs_of_lengths(program, longest_length):
    """For each number of moves the least counter from which so many can be done, for each place (None if from none)."""
    needs = [{place: 0 for place in program.places()}]
    for _ in range(longest_length):
        ahead = needs[-1]
        needs.append({place: min([max(least, ahead[other] - change) for begin, least, change, other in program.moves()
                                  if begin == place and ahead[other] is not None], default=None)
                      for place in program.places()})
    return needs


class ExampleTests(unittest.TestCase):
    def test_example(self):
        self.assertEqual(
            [least_endless(mill(), "up"), endless(mill(), "down", 99), least_endless(pit(), "a"), least_endless(pit(), "b"),
             longest(pit(), "a", 6), longest(pit(), "a", 5), least_top(mill(), "up", 1, "down", 0),
             top_of(mill(), "up", 1, [(3, [0]), (1, [1]), (2, [2])])],
            [0, None, 7, 4, 6, 4, 10, 10])

    def test_names_of_the_arguments(self):
        self.assertEqual(least_endless(program=pit(), place="a"), 7)
        self.assertIsNone(endless(program=pit(), place="a", counter=6))
        self.assertEqual(longest(program=pit(), place="a", counter=6), 6)
        self.assertEqual(top_of(program=pit(), place="a", counter=7, row=[(2, [2])]), 9)
        self.assertEqual(least_top(program=pit(), place="a", counter=7, other="a", end=8), 8)
        self.assertEqual(row_below(program=pit(), place="a", counter=7, other="a", end=8), [(1, [2])])


class EndlessTests(unittest.TestCase):
    def check_endless(self, program, place, counter):
        told = endless(program, place, counter)
        self.assertIsInstance(told, tuple)
        row, turn = told
        self.assertIsNot(row, turn)
        led_to = led(program, place, counter, row)
        self.assertIsNotNone(led_to, (program.moves(), place, counter, told))
        check_told_row(self, program, (place, counter), row, led_to)
        self.assertNotEqual(turn, [])
        change = change_of(program, turn)
        self.assertGreaterEqual(change, 0)
        check_told_row(self, program, led_to, turn, (led_to[0], led_to[1] + change))
        self.assertEqual(len({id(part[1]) for part in row + turn}), len(row) + len(turn))

    def test_drawn_and_hard_programs(self):
        rng = random.Random(40)
        found = {}
        for program in hard_programs() + [drawn_climber(rng) for _ in range(15)] + [drawn_program(rng) for _ in range(90)]:
            needs = needs_of_lengths(program, 800)[-1]
            for place in program.places():
                least = least_endless(program, place)
                # If no run goes on for ever, the counter falls each time that a place comes again, so 200 times.
                known = None if needs[place] is None or needs[place] > 150 else needs[place]
                self.assertEqual(least, known, (program.moves(), place))
                found[least] = found.get(least, 0) + 1
                if least is None:
                    for counter in [0, 7, 1000, GREAT]:
                        self.assertIsNone(endless(program, place, counter))
                else:
                    for counter in [least, least + 1, least + rng.randint(2, 700), GREAT]:
                        self.check_endless(program, place, counter)
                    for counter in [least - 1, least - 2, 0]:
                        if 0 <= counter < least:
                            self.assertIsNone(endless(program, place, counter))
        self.assertTrue({None, 0, 1, 2, 3, 4, 5, 6, 7, 8} <= set(found), found)
        self.assertGreater(max(key for key in found if key is not None), 8)

    def test_a_round_that_changes_nothing(self):
        for moves, need in [([("a", 0, 0, "a")], 0), ([("a", 6, 0, "a")], 6), ([("a", 8, -2, "b"), ("b", 3, 2, "a")], 8),
                            ([("a", 3, -3, "b"), ("b", 0, 2, "c"), ("c", 5, 1, "a")], 6)]:
            program = Program(["a", "b", "c"], moves)
            self.assertEqual(least_endless(program, "a"), need)
            self.check_endless(program, "a", need)
            self.assertEqual(change_of(program, endless(program, "a", need)[1]), 0)
            if need > 0:
                self.assertIsNone(endless(program, "a", need - 1))

    def test_no_round_or_falling_rounds_alone(self):
        for moves in [[], [("a", 0, 4, "b")], [("a", 1, -1, "a")], [("a", 0, 4, "b"), ("b", 8, -4, "c"), ("c", 1, -1, "a")],
                      ring(NAMES, [-4, 4, 3, -4]), [("b", 0, 0, "b")]]:
            program = Program(NAMES, moves)
            self.assertIsNone(least_endless(program, "a"))
            self.assertIsNone(endless(program, "a", GREAT))

    def test_the_way_to_the_round(self):
        far = Program(NAMES, [("a", 4, -4, "b"), ("b", 8, 0, "c"), ("c", 3, -3, "d"), ("d", 7, 0, "d"), ("b", 3, 1, "b")])
        self.assertEqual([least_endless(far, place) for place in NAMES], [7, 3, 10, 7])
        for place, need in zip(NAMES, [7, 3, 10, 7]):
            self.check_endless(far, place, need)
            self.assertIsNone(endless(far, place, need - 1))
        climb = Program(["a", "b"], [("a", 0, 0, "b"), ("b", 2, -2, "b"), ("a", 8, 0, "a"), ("a", 1, -1, "a")])
        self.assertEqual(least_endless(climb, "a"), 8)
        self.check_endless(climb, "a", GREAT)


class LongestTests(unittest.TestCase):
    def test_against_moves_done_one_by_one(self):
        rng = random.Random(41)
        told = {True: 0, False: 0}
        for program in hard_programs() + [drawn_climber(rng) for _ in range(5)] + [drawn_program(rng) for _ in range(30)]:
            needs = needs_of_lengths(program, LONGEST)
            for place in program.places():
                for counter in [0, rng.randint(1, 8), rng.randint(9, 60), rng.randint(61, 999), 1000]:
                    fitting = [length for length, need in enumerate(needs)
                               if need[place] is not None and need[place] <= counter]
                    known = None if fitting[-1] == LONGEST else fitting[-1]
                    self.assertEqual(longest(program, place, counter), known, (program.moves(), place, counter))
                    told[known is None] += 1
        self.assertGreater(min(told.values()), 100)

    def test_known_lengths(self):
        bare = Program(["a", "b"], [])
        self.assertEqual([longest(bare, "a", counter) for counter in (0, 1000)], [0, 0])
        still = Program(NAMES, ring(NAMES, [4, -4, 4, -4])[:3] + [("d", 8, -4, "a")])
        self.assertEqual([longest(still, "a", counter) for counter in (0, 3, 4)], [3, 3, None])
        fall = Program(NAMES, ring(NAMES, [0, 0, 0, -1]))
        self.assertEqual([longest(fall, "a", counter) for counter in (0, 1, 2, 1000)], [3, 7, 11, 4003])
        self.assertEqual(longest(fall, "d", 1000), 4000)

    def test_from_the_least_endless_counter_on(self):
        self.assertEqual([longest(pit(), "a", counter) for counter in range(4, 10)], [2, 4, 6, None, None, None])
        self.assertEqual([longest(pit(), "b", counter) for counter in range(6)], [1, 3, 5, 7, None, None])
        self.assertIsNone(longest(Program(["a"], [("a", 8, 0, "a")]), "a", 8))
        self.assertEqual(longest(Program(["a"], [("a", 8, 0, "a")]), "a", 7), 0)


class TopTests(unittest.TestCase):
    def drawn_row(self, rng, program, place):
        moves, row, at = program.moves(), [], place
        for _ in range(rng.randint(0, 4)):
            numbers, here = [], at
            for _ in range(rng.randint(1, 5)):
                fitting = [number for number, move in enumerate(moves) if move[0] == here]
                if fitting:
                    numbers.append(rng.choice(fitting))
                    here = moves[numbers[-1]][3]
            if numbers:
                row.append((rng.randint(1, 5) if here == at else 1, numbers))
                at = here
        return row

    def test_small_rows_move_by_move(self):
        rng = random.Random(42)
        for _ in range(600):
            program = drawn_program(rng)
            place = rng.choice(program.places())
            row = self.drawn_row(rng, program, place)
            need = need_of(program, row)
            for counter in [need, need + 1, need + 30, 10 ** 39 + need]:
                seen = [counter]
                for number in written_out(row):
                    seen.append(seen[-1] + program.moves()[number][2])
                self.assertEqual(top_of(program, place, counter, row), max(seen), (program.moves(), row))
            if need > 0:
                self.assertIsNone(top_of(program, place, need - 1, row))

    def test_huge_rows(self):
        hill = Program(["a", "b"], [("a", 0, 4, "a"), ("a", 3, -3, "a"), ("a", 8, 0, "b"), ("b", 4, -4, "b")])
        times = 10 ** 40
        self.assertEqual(top_of(hill, "a", 5, [(times, [0])]), 4 * times + 5)
        self.assertEqual(top_of(hill, "a", 5, [(times, [0, 1])]), times + 5 + 3)
        self.assertEqual(top_of(hill, "a", 5, [(times, [1, 0])]), times + 5)
        self.assertEqual(top_of(hill, "a", 3 * times, [(times, [1])]), 3 * times)
        self.assertIsNone(top_of(hill, "a", 3 * times - 1, [(times, [1])]))
        self.assertEqual(top_of(hill, "a", 2 * times, [(times, [0, 1, 1])]), 2 * times + 4)
        self.assertEqual(top_of(hill, "a", 0, [(times, [0]), (1, [2]), (times, [3])]), 4 * times)
        self.assertEqual(top_of(hill, "a", 0, [(times, [0]), (times, [1]), (times, [0, 0, 1])]), 6 * times + 3)
        self.assertEqual(top_of(hill, "b", times, [(7, [3, 3])]), times)
        self.assertEqual(top_of(hill, "b", times, []), times)

    def test_a_row_that_is_greater_than_any(self):
        hill = Program(["a"], [("a", 4, -4, "a"), ("a", 0, 4, "a")])
        row = [(10 ** 40, [1, 0] * 83)] * 300
        began = time.perf_counter()
        self.assertEqual(top_of(hill, "a", 9, row), 13)
        self.assertLess(time.perf_counter() - began, 5)

    def test_errors(self):
        for value in some_values():
            for behind in [["up", 3, []], [value] * 3, [None] * 3]:
                if not isinstance(value, Program):
                    with self.assertRaises(InvalidProgram) as caught:
                        top_of(value, *behind)
                    self.assertIs(caught.exception.value, value)
                if value not in ("up", "down"):
                    with self.assertRaises(UnknownName) as caught:
                        top_of(mill(), value, *behind[1:])
                    self.assertIs(caught.exception.name, value)
                if isinstance(value, bool) or not isinstance(value, int) or value < 0:
                    with self.assertRaises(InvalidNumber) as caught:
                        top_of(mill(), "up", value, behind[2])
                    self.assertIs(caught.exception.value, value)
            if not isinstance(value, list) or value:
                with self.assertRaises(InvalidRow) as caught:
                    top_of(mill(), "up", 0, value)
                self.assertIs(caught.exception.value, value)
        for row in [[(1, [2])], [(1, [3])], [(0, [0])], [(True, [0])], [(1, [False])], [(1, (0,))], [[1, [0]]], [(1, [])],
                    ((1, [0]),), [(2, [1])], [(1, [0, 2])], [(1, [1]), (1, [0])]]:
            with self.assertRaises(InvalidRow) as caught:
                top_of(mill(), "up", 50, row)
            self.assertIs(caught.exception.value, row)
        self.assertIs(is_row(mill(), "down", [(1, [2])]), True)


class LeastTopTests(unittest.TestCase):
    def check_climb(self, program, begin, end, band):
        """Compare with a search below ceilings in counters of a band that is wider than any climb."""
        low, high = band
        top = least_top(program, *begin, *end)
        row = row_below(program, *begin, *end)
        told = (program.moves(), begin, end, top)
        if top is None:
            self.assertIsNone(row)
            self.assertNotIn(end, self.below(program, begin, high, low), told)
            return None
        self.assertIn(end, self.below(program, begin, top, low), told)
        self.assertGreaterEqual(top, max(begin[1], end[1]))
        if top > max(begin[1], end[1]):
            self.assertNotIn(end, self.below(program, begin, top - 1, low), told)
        check_told_row(self, program, begin, row, end)
        self.assertEqual(top_of(program, *begin, row), top)
        return top - max(begin[1], end[1])

    def below(self, program, begin, ceiling, low):
        return ends_by_search(program.moves(), *begin, ceiling, low)

    def check_drawn(self, rng, program, climbs):
        place, other = rng.choice(program.places()), rng.choice(program.places())
        more = rng.randint(-60, 60)
        for counter in [rng.randint(0, 9), rng.randint(0, 60), rng.randint(200, 320)]:
            end = max(0, counter + more)
            climbs.append(self.check_climb(program, (place, counter), (other, end), (0, counter + end + 700)))
        near = self.check_climb(program, (place, 2000), (other, 2000 + more), (1200, 2800))
        climbs.append(near)
        # Far above all guards everything is as in the band of 1,600 numbers.
        great = 10 ** 39 + rng.randint(0, 10 ** 9)
        top = least_top(program, place, great, other, great + more)
        row = row_below(program, place, great, other, great + more)
        self.assertEqual(top, None if near is None else near + max(great, great + more))
        if row is not None:
            check_told_row(self, program, (place, great), row, (other, great + more))
            self.assertEqual(top_of(program, place, great, row), top)

    def test_against_a_search(self):
        rng = random.Random(43)
        climbs = []
        for program in hard_programs() + [drawn_climber(rng) for _ in range(25)] + [drawn_full_program(rng) for _ in range(5)]:
            for _ in range(3):
                self.check_drawn(rng, program, climbs)
        climbs = [climb for climb in climbs if climb is not None]
        self.assertGreater(max(climbs), 20)
        self.assertGreater(len([climb for climb in climbs if climb > 0]), 30)

    def test_the_highest_climbs(self):
        # To change by less than a round has to go on until rises by 7 and falls by 8 come to that.
        over = Program(NAMES, ring(["a", "b"], [4, 3]) + [("a", 0, 0, "c")] + ring(["c", "d"], [-4, -4]))
        self.assertEqual([least_top(over, "a", 10, "c", 10 + change) for change in (0, 7, -8, -1, 1, 6)],
                         [10, 17, 10, 17, 59, 24])
        under = Program(NAMES, ring(["a", "b"], [-4, -4]) + [("a", 0, 0, "c")] + ring(["c", "d"], [4, 3]))
        for counter in [100, GREAT]:
            self.assertEqual([least_top(under, "a", counter, "c", counter + change) for change in (0, 7, -8, -1, 1, 6)],
                             [counter + max(0, change) for change in (0, 7, -8, -1, 1, 6)])
            self.assertEqual(top_of(under, "a", counter, row_below(under, "a", counter, "c", counter + 1)), counter + 1)
        # The way below is too short from here.
        self.assertIsNone(least_top(under, "a", 47, "c", 48))
        self.assertEqual(least_top(under, "a", 48, "c", 49), 49)

    def test_a_guard_far_below(self):
        # Only at 0 to 3 the fall ends, and only there the other place is left.
        gate = Program(["a", "b"], [("a", 4, -4, "a"), ("a", 0, 4, "b"), ("b", 0, 4, "b"), ("b", 1, -1, "b")])
        self.assertEqual(least_top(gate, "a", 50, "b", 50), 50)
        self.assertEqual(least_top(gate, "a", GREAT, "b", GREAT - 60), GREAT)
        self.assertIsNone(least_top(gate, "b", 50, "a", 50))
        step = Program(["a", "b"], [("a", 8, -1, "b"), ("b", 7, 1, "a"), ("a", 2, -2, "a"), ("a", 6, 2, "a")])
        self.assertEqual(least_top(step, "a", 6, "b", 7), 8)
        self.assertEqual(least_top(step, "a", 7, "a", 5), 7)
        self.assertEqual(least_top(step, "b", 9, "b", 7), 10)
        self.assertIsNone(least_top(step, "a", 6, "b", 5))
        self.assertIsNone(least_top(step, "a", 5, "b", 8))

    def test_no_moves_at_all(self):
        for counter in [0, 7, GREAT]:
            self.assertEqual(least_top(mill(), "up", counter, "up", counter), counter)
            self.assertEqual(row_below(mill(), "up", counter, "up", counter), [])
        bare = Program(["a", "b"], [])
        self.assertEqual((least_top(bare, "a", 3, "a", 3), row_below(bare, "a", 3, "a", 3)), (3, []))
        for end in [("a", 4), ("a", 2), ("b", 3)]:
            self.assertIsNone(least_top(bare, "a", 3, *end))
            self.assertIsNone(row_below(bare, "a", 3, *end))

    def test_none_exactly_where_no_row_leads(self):
        rng = random.Random(44)
        for program in hard_programs():
            for counter in [rng.randint(0, 70), GREAT]:
                place, other = rng.choice(NAMES), rng.choice(NAMES)
                for end in range(max(0, counter - 60), counter + 61, 5):
                    told = [least_top(program, place, counter, other, end), row_below(program, place, counter, other, end),
                            comes_to(program, place, counter, other, end)]
                    self.assertEqual([value is None for value in told], [told[0] is None] * 3)


class GeneralTests(unittest.TestCase):
    def test_seconds(self):
        for program in hard_programs():
            fresh = Program(program.places(), program.moves())
            began = time.perf_counter()
            for called in [lambda: least_endless(fresh, "a"), lambda: endless(fresh, "b", GREAT), lambda: longest(fresh, "c", 1000),
                           lambda: least_top(fresh, "a", GREAT, "d", GREAT - 60), lambda: row_below(fresh, "d", 9, "b", 60)]:
                called()
            self.assertLess(time.perf_counter() - began, 4)

    def test_equal_calls_give_equal_results_and_new_lists(self):
        for program in hard_programs() + [mill(), pit()]:
            place = program.places()[0]
            asked = [lambda: endless(program, place, 500), lambda: row_below(program, place, 500, place, 512),
                     lambda: least_endless(program, place), lambda: least_top(program, place, 500, place, 512)]
            first = [called() for called in asked]
            kept = copy.deepcopy(first)
            for row in list(first[0] or ()) + [first[1] or []]:
                for _, numbers in row:
                    numbers.append(99)
                row.append(None)
            longest(program, place, 30)
            self.assertEqual([called() for called in asked], kept)
            fresh = Program(program.places(), program.moves())
            self.assertEqual(endless(fresh, place, 500), kept[0])

    def test_arguments_are_left_alone(self):
        program, row = mill(), [(3, [0]), (1, [1]), (2, [2])]
        self.assertEqual(top_of(program, "up", 1, row), 10)
        self.assertEqual((program, row), (mill(), [(3, [0]), (1, [1]), (2, [2])]))


class ErrorTests(unittest.TestCase):
    CALLS = [(least_endless, ["up"]), (endless, ["up", 3]), (longest, ["up", 3]), (least_top, ["up", 3, "down", 4]),
             (row_below, ["up", 3, "down", 4])]

    def raised(self, error, called, *arguments):
        with self.assertRaises(error) as caught:
            called(*arguments)
        self.assertIs(caught.exception.__class__, error)
        return caught.exception

    def test_each_argument_with_those_behind_it_wrong_too(self):
        for value in some_values():
            for called, right in self.CALLS:
                for behind in [right, [value] * len(right), [None] * len(right)]:
                    if not isinstance(value, Program):
                        self.assertIs(self.raised(InvalidProgram, called, value, *behind).value, value)
                for at, argument in enumerate(right):
                    for behind in [right[at + 1:], [value] * len(right[at + 1:]), [None] * len(right[at + 1:])]:
                        arguments = [mill()] + right[:at] + [value] + behind
                        if isinstance(argument, str) and value not in ("up", "down"):
                            self.assertIs(self.raised(UnknownName, called, *arguments).name, value)
                            bare = Program(["up", "down"], [])
                            self.assertIs(self.raised(UnknownName, called, bare, *arguments[1:]).name, value)
                        whole = isinstance(value, int) and not isinstance(value, bool)
                        if isinstance(argument, int) and (not whole or value < 0):
                            self.assertIs(self.raised(InvalidNumber, called, *arguments).value, value)


if __name__ == "__main__":
    unittest.main()
