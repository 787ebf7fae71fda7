"""Tests of what serves promise [32]: which numbers are left out by classes (rest, step)."""

import random
import time
import unittest
from math import lcm

from floorwalks.rests import class_along, left_out

PRIMES = [2, 3, 5, 7, 11, 13, 17]


def left_out_by_count(classes, many, most):
    """What is to be told, number by number; without end, up to where all comes again."""
    stop = lcm(*[step for _, step in classes]) if many is None else many
    left = [number for number in range(stop) if all(number % step != rest for rest, step in classes)]
    if many is None:
        return None if left else []
    return left if len(left) <= most else None


class LeftOutTests(unittest.TestCase):
    def check(self, classes, many, most):
        told = left_out(classes, many, most)
        known = left_out_by_count(classes, many, most)
        self.assertEqual(None if told is None else sorted(told), known, (classes, many, most))
        return known

    def test_drawn_classes(self):
        rng = random.Random(60)
        found = {"none": 0, "all": 0, "some": 0}
        for _ in range(4000):
            steps = [rng.choice([1, 2, 2, 3, 3, 4, 4, 5, 6, 6, 8, 9, 10, 12]) for _ in range(rng.randint(0, 8))]
            classes = [(rng.randrange(step), step) for step in steps if step > 1 or rng.random() < 0.05]
            many = rng.choice([None, 0, 1, rng.randint(2, 20), rng.randint(20, 400)])
            known = self.check(classes, many, rng.choice([0, 1, rng.randint(2, 60), 400]))
            found["none" if known is None else "some" if known else "all"] += 1
        self.assertGreater(min(found.values()), 200)

    def test_the_number_that_may_be_left_out(self):
        classes = [(1, 2), (0, 6), (4, 12)]
        for many in [None, 0, 1, 2, 3, 11, 24, 100, 1000, 7000]:
            left = left_out_by_count(classes, many or 12, 7000)
            for most in [0, 1, len(left) - 1, len(left), len(left) + 1]:
                if most >= 0:
                    self.check(classes, many, most)

    def test_more_than_is_looked_through_one_by_one(self):
        rng = random.Random(61)
        for _ in range(6):
            classes = [(rng.randrange(prime), prime) for prime in PRIMES] + [(rng.randrange(12), 12), (rng.randrange(18), 18)]
            for many in [20000, 20000 + rng.randint(1, 999)]:
                left = left_out_by_count(classes, many, many)
                for most in [0, len(left) - 1, len(left), 4000]:
                    self.check(classes, many, most)
            self.assertIsNone(left_out(classes, None, 0))
            part = rng.choice([2, 3, 5])
            whole = [one for one in classes if one[1] != part] + [(rest, part) for rest in range(part)]
            self.assertEqual(left_out(whole, None, 0), [])
            self.assertEqual(left_out(whole, 10 ** 40, 0), [])

    def test_what_is_left_out_of_several_parts(self):
        classes = [(0, 4), (1, 4), (0, 5), (1, 5)] + [(3, prime) for prime in (7, 11, 13, 17, 19, 23)]
        for many in [20000, 20001, 20002, 20003]:
            left = left_out_by_count(classes, many, many)
            for most in [0, len(left) // 2, len(left) - 1, len(left)]:
                self.check(classes, many, most)

    def test_great_steps(self):
        began = time.perf_counter()
        great = [(number, 10 ** 39 + number) for number in range(60)]
        self.assertIsNone(left_out(great, None, 900))
        self.assertIsNone(left_out(great, 10 ** 38, 900))
        self.assertEqual(left_out(great, 100, 40), list(range(60, 100)))
        self.assertIsNone(left_out(great, 100, 39))
        self.assertEqual(left_out([(0, 2), (1, 2)] + great, None, 0), [])
        primes = [(0, prime) for prime in PRIMES]
        self.assertEqual(left_out(primes + [(1, 6), (5, 6)] + great, None, 0), [])
        self.assertEqual(left_out(primes + [(1, 6), (5, 6)] + great, 10 ** 40, 0), [])
        self.assertIsNone(left_out(primes + [(1, 6), (11, 12)] + great, None, 0))
        self.assertIsNone(left_out(primes + [(1, 6), (11, 12)] + great, 10 ** 40, 900))
        self.assertLess(time.perf_counter() - began, 3)


class ClassAlongTests(unittest.TestCase):
    def test_against_items_one_by_one(self):
        rng = random.Random(62)
        for _ in range(1500):
            first, step, other = rng.randint(0, 60), rng.randint(1, 24), rng.randint(1, 24)
            rest = rng.randrange(other)
            fitting = [at for at in range(600) if (first + at * step) % other == rest]
            told = class_along(first, step, rest, other)
            if told is None:
                self.assertEqual(fitting, [])
            else:
                self.assertEqual(fitting, [at for at in range(600) if at % told[1] == told[0]])
                self.assertTrue(0 <= told[0] < told[1])

    def test_great_numbers(self):
        first, step, other = 10 ** 40 - 7, 10 ** 39 + 3, 10 ** 38 + 9
        rest, period = class_along(first, step, 12345, other)
        self.assertEqual((first + rest * step) % other, 12345)
        self.assertEqual(period, other)


if __name__ == "__main__":
    unittest.main()
