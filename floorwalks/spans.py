"""The numbers with which a place can be come to or begun at, as spans in which they come again by a step.

A span is a tuple (low, high, held). The list held tells of low and the numbers behind it whether they are
among the numbers meant; behind its last item it comes again, up to below high, or without end if high is
None. The spans of a list follow each other without a gap from 0 on.
"""

from floorwalks.rounds import least_step
from floorwalks.tables import DEEPEST
from floorwalks.walks import SETTLED


def ends_from(walks, place, counter, other):
    """Return the spans of the numbers with which other can be come to from place with counter."""
    return _spans(walks.common(), counter, lambda end: walks.comes(place, counter, other, end))


def begins_to(walks, place, other, end):
    """Return the spans of the counters from which other can be come to with end."""
    return _spans(walks.common(), end, lambda counter: walks.comes(place, counter, other, end))


def next_in(spans, number):
    """Return the least number of at least a number that the spans hold, or None."""
    for low, high, held in spans:
        start = max(low, number)
        stop = start + len(held)
        if high is not None:
            stop = min(stop, high)
        for at in range(start, stop):
            if held[(at - low) % len(held)]:
                return at
    return None


def count_in(spans, first, last):
    """Return how many numbers from first to last, both with them, the spans hold."""
    many = 0
    for low, high, held in spans:
        stop = last + 1 if high is None else min(high, last + 1)
        start = max(low, first)
        if start < stop:
            many += _count_below(held, stop - low) - _count_below(held, start - low)
    return many


def stretches_of(spans):
    """Return a list of stretches that hold the same numbers as the spans."""
    stretches = []
    for low, high, held in spans:
        step = least_step(held)
        for number in range(low, low + step):
            if held[number - low] and (high is None or number < high):
                many = None if high is None else (high - 1 - number) // step + 1
                stretches.append((number, 1 if many == 1 else step, many))
    return stretches


def _spans(common, counter, told):
    """Return the spans of the numbers of which told is true, where runs lead from a counter to them or back.

    A change of SETTLED and more depends on its step alone, but for what lies below the least counters that
    runs need at their lower side; these are DEEPEST at most.
    """
    near = counter - SETTLED
    far = _lowered(counter + SETTLED, max(0, near), common, told)
    spans = [_span(far, None, common, told)]
    if near <= DEEPEST:
        return _once(0, far, told) + spans
    low = _lowered(DEEPEST, 0, common, told)
    high = near
    while high < far and told(high) == told(high - common):
        high += 1
    return _once(0, low, told) + [_span(low, high, common, told)] + _once(high, far, told) + spans


def _lowered(number, least, common, told):
    """Return the lowest number, not below least, from which what is told from a number on comes again already."""
    while number > least and told(number - 1) == told(number - 1 + common):
        number -= 1
    return number


def _once(low, high, told):
    """Return a list with the span of which nothing comes again, without it if it would be empty."""
    return [_span(low, high, high - low, told)] if low < high else []


def _span(low, high, many, told):
    return (low, high, [told(number) for number in range(low, low + many)])


def _count_below(held, many):
    return many // len(held) * held.count(True) + held[:many % len(held)].count(True)
