"""What lists of stretches hold, and whether moves lead out of it."""

from floorwalks.kinds import is_whole
from floorwalks.rests import class_along, left_out


def is_stretch(value):
    """Return whether a value is a stretch (first, step, many)."""
    if not isinstance(value, tuple) or len(value) != 3:
        return False
    first, step, many = value
    if not is_whole(first) or first < 0 or not is_whole(step) or step < 1:
        return False
    return many is None or (is_whole(many) and many >= 1)


class Held:
    """The numbers that a list of stretches holds: single ones, and runs (first, step, last) of several.

    The last number of a run without end is None.
    """

    def __init__(self, stretches):
        self._singles = {}
        self._runs = []
        self._ranges = {}
        for first, step, many in stretches:
            if many == 1:
                self._singles[first] = True
            else:
                last = None if many is None else first + (many - 1) * step
                self._runs.append((first, step, last))
                self._ranges.setdefault(step, {}).setdefault(first % step, []).append((first, last))

    def holds(self, number):
        """Return whether a number is held."""
        if number in self._singles:
            return True
        for step, by_rest in self._ranges.items():
            for first, last in by_rest.get(number % step, []):
                if first <= number and (last is None or number <= last):
                    return True
        return False

    def goes_into(self, least, change, other):
        """Return whether other holds each number of at least least that is held here, raised by change."""
        for number in self._singles:
            if number >= least and not other.holds(number + change):
                return False
        for first, step, last in self._runs:
            begin = first + max(0, -((first - least) // step)) * step
            many = None if last is None else (last - begin) // step + 1
            if (many is None or many > 0) and not other.holds_all(begin + change, step, many):
                return False
        return True

    def holds_all(self, first, step, many):
        """Return whether all numbers of a stretch are held."""
        parts = self._parts(first, step, many)
        marks = sorted(set([0] + [part[0] for part in parts] + [part[1] for part in parts if part[1] is not None]))
        for low, high in zip(marks, marks[1:] + [many]):
            classes = [((rest - low) % period, period) for start, stop, (rest, period) in parts
                       if start <= low and (stop is None or low < stop)]
            left = left_out(classes, None if high is None else high - low, len(self._singles))
            if left is None or any([first + (low + at) * step not in self._singles for at in left]):
                return False
        return True

    def _parts(self, first, step, many):
        """Return a list of tuples (low, high, class) of what a stretch has in common with each run.

        The numbers from low to below high that are in the class are counted along the stretch, and high is
        None if there is no end.
        """
        parts = []
        for other, by_rest in self._ranges.items():
            for rest, ranges in by_rest.items():
                met = class_along(first, step, rest, other)
                if met is not None:
                    spans = [_span_along(first, step, many, begin, last) for begin, last in ranges]
                    parts.extend([(low, high, met) for low, high in spans if high is None or low < high])
        return parts


def is_closed(moves, held):
    """Return whether no move leads out of what is held at each place, by a dict."""
    for place, least, change, other in moves:
        if not held[place].goes_into(least, change, held[other]):
            return False
    return True


def _span_along(first, step, many, begin, last):
    """Return (low, high) of which items of a stretch, from low to below high, lie from begin to last."""
    low = max(0, -((first - begin) // step))
    if last is None:
        return (low, many)
    high = (last - first) // step + 1
    return (low, high if many is None else min(high, many))
