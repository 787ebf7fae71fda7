"""The least begins of all changes between two places of a program, and runs that keep to them.

Rises of SETTLED and more come again by a common step, for this reason. A run leaves each level from its
begin (or 11, if it begins below) to its end for good, at one of 4 places and at most 3 below the level. So
any 17 levels in a row hold a round that raises the counter by 1 to 16, and SETTLED is 11 and 17 times 17:

- Keep the round in the first 17 levels. Of the 16 next rounds some together raise by a multiple of it: they
  can be left out, and the round that is kept be done more often. So the rise comes again by the step of this
  round, with the same begin, already from below SETTLED on.
- Done often enough, this round carries the run so high that any other round at its place can be put in. So
  the rise comes again by what all rounds there have in common, and all rises by the common step of all
  places. It is at most 84 (of rounds of 7, 4 and 3 at two, one and one places).

So tables up to FARTHEST, 300 and 84, tell all.
"""

from floorwalks.rounds import common_step
from floorwalks.tables import FARTHEST, Table

SETTLED = 300
# The round that is kept raises by at most this, and begins so far above the begin of the run: at most 3
# below this begin or the level 11, and at most 15 above.
STEEPEST = 16
LOWEST_ROUND = -3
HIGHEST_ROUND = 26

ONWARD = 0
TURNED = 1


class Walks:
    """The tables of a program and of the turned one, each made when it is first asked for.

    The runs of the turned program are those of the program backwards, so its rises are the falls of this one,
    and its begins are their ends.
    """

    def __init__(self, places, moves):
        self._at = {place: at for at, place in enumerate(places)}
        onward = [(self._at[place], least, change, self._at[other]) for place, least, change, other in moves]
        turned = [(other, least + change, -change, place) for place, least, change, other in onward]
        self._ways = (onward, turned)
        self._tables = {}
        self._common = common_step(onward, len(places))

    def common(self):
        """Return a step by which rises and falls of SETTLED and more come again."""
        return self._common

    def rises(self, place, other):
        """Return the list of the least begins of the rises from 0 to below FARTHEST."""
        return self._table(ONWARD, self._at[place]).needs(self._at[other])

    def falls(self, place, other):
        """Return the list of the least ends of the falls from 0 to below FARTHEST."""
        return self._table(TURNED, self._at[other]).needs(self._at[place])

    def least(self, place, other, change):
        """Return the least begin for a change, or None."""
        if change >= 0:
            return self._least(ONWARD, self._at[place], self._at[other], change)
        end = self._least(TURNED, self._at[other], self._at[place], -change)
        return None if end is None else end - change

    def comes(self, place, counter, other, end):
        """Return whether other can be come to with end from place with counter."""
        return _is_within(self.least(place, other, end - counter), counter)

    def row(self, place, other, change):
        """Return a pressed row for a change that needs no more than its least begin, or None."""
        if change >= 0:
            return self._row(ONWARD, self._at[place], self._at[other], change)
        row = self._row(TURNED, self._at[other], self._at[place], -change)
        return None if row is None else [(times, numbers[::-1]) for times, numbers in row[::-1]]

    def _table(self, way, start):
        if (way, start) not in self._tables:
            self._tables[(way, start)] = Table(self._ways[way], len(self._at), start)
        return self._tables[(way, start)]

    def _least(self, way, place, other, rise):
        if rise >= FARTHEST:
            rise = SETTLED + (rise - SETTLED) % self._common
        return self._table(way, place).need(other, rise)

    def _row(self, way, place, other, rise):
        need = self._least(way, place, other, rise)
        if need is None:
            return None
        if rise < FARTHEST:
            return _pressed([(1, self._table(way, place).numbers(other, rise))])
        return self._great_row(way, place, other, rise, need)

    def _great_row(self, way, place, other, rise, need):
        for middle, height, step in self._rounds(way, place, need):
            behind = self._table(way, middle)
            # With the round done once, the rise is a settled one; what is more is made up of the round.
            rest = SETTLED + (rise - SETTLED) % step - height - step
            if _is_within(behind.need(other, rest), need + height + step):
                ahead = self._table(way, place).numbers(middle, height)
                times = (rise - height - rest) // step
                return _pressed([(1, ahead), (times, behind.numbers(middle, step)), (1, behind.numbers(other, rest))])

    def _rounds(self, way, place, need):
        """Return the list of (middle, height, step) of the rounds that can be done on the way from a begin."""
        ahead = self._table(way, place)
        return [
            (middle, height, step)
            for middle in range(len(self._at))
            for height in range(LOWEST_ROUND, HIGHEST_ROUND + 1)
            if _is_within(ahead.need(middle, height), need)
            for step in range(1, STEEPEST + 1)
            if _is_within(self._table(way, middle).need(middle, step), need + height)
        ]


def _is_within(need, counter):
    return need is not None and need <= counter


def _pressed(parts):
    return [(times, numbers) for times, numbers in parts if numbers]
