"""Tests of what serves promises [25] to [27] and [31]: spans in which numbers come again by a step."""

import random
import unittest

from floorwalks.spans import count_in, next_in, stretches_of

from drawn import numbers_up_to


def drawn_spans(rng):
    """Spans from 0 on, the last one without end."""
    spans, low = [], 0
    for _ in range(rng.randint(0, 3)):
        high = low + rng.randint(1, 12)
        spans.append((low, high, drawn_items(rng)))
        low = high
    return spans + [(low, None, drawn_items(rng))]


def drawn_items(rng):
    share = rng.choice([0, 0.2, 0.7, 1])
    return [rng.random() < share for _ in range(rng.randint(1, 6))] * rng.randint(1, 2)


def written_out(spans, most):
    return [number for low, high, held in spans
            for number in range(low, most + 1 if high is None else high) if held[(number - low) % len(held)]]


class SpanTests(unittest.TestCase):
    def test_against_numbers_written_out(self):
        rng = random.Random(70)
        for _ in range(1500):
            spans = drawn_spans(rng)
            numbers = written_out(spans, 120)
            for number in [0, rng.randint(1, 40), rng.randint(1, 90)]:
                behind = [other for other in numbers if other >= number]
                self.assertEqual(next_in(spans, number), min(behind, default=None), (spans, number))
                for last in [number, number - 1, rng.randint(0, 100)]:
                    many = len([other for other in numbers if number <= other <= last])
                    self.assertEqual(count_in(spans, number, last), many, (spans, number, last))
            stretches = stretches_of(spans)
            self.assertEqual(numbers_up_to(stretches, 120), set(numbers), spans)
            self.assertEqual(sum(len(numbers_up_to([stretch], 120)) for stretch in stretches), len(numbers))
            self.assertTrue(all(many is None or many >= 1 for _, _, many in stretches))

    def test_least_steps(self):
        self.assertEqual(stretches_of([(0, 3, [True, False, True]), (3, None, [True, False, True, False])]),
                         [(0, 1, 1), (2, 1, 1), (3, 2, None)])
        self.assertEqual(stretches_of([(0, 6, [True] * 6), (6, None, [False] * 4)]), [(0, 1, 6)])


if __name__ == "__main__":
    unittest.main()
