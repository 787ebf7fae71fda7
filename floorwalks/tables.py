"""Tables of the least begins of the runs from one place.

Only rises are asked of a table, changes of at least 0, and falls by a few from begins up to DEEPEST; any
other fall is a rise of the turned program. Why the bounds below are enough (moves need at most 8 and change
by at most 4, there are at most 4 places):

- DEEPEST: no least begin of a rise is greater. From a greater one, n, each level from 12 to n - 1 is
  passed on the way down and on the way up. There are 256 ways in which this may be: at one of 4 places and
  at most 3 below the level, on both sides. So two levels are passed alike, and without what lies between
  them, on both sides, the run has the same change and can be done from n - 1, too.
- HIGHEST: a shortest run climbs at most 256 above its begin, its end and 11. Of two levels above these
  that are passed alike on the way up and down, what lies between could be left out on both sides.
- FARTHEST: greater rises need not be searched for, see walks.
"""

DEEPEST = 268
FARTHEST = 384
HIGHEST = 640


class Table:
    """The least begin for each place and change from one place, and the last move of such a run."""

    def __init__(self, moves, many, start):
        """Make the table for moves between so many places, which are numbered, and the place to start from."""
        self._moves = moves
        self._needs = [[None] * (DEEPEST + HIGHEST + 1) for _ in range(many)]
        self._last = [[None] * (DEEPEST + HIGHEST + 1) for _ in range(many)]
        self._needs[start][DEEPEST] = 0
        self._fill(start)

    def need(self, other, change):
        """Return the least begin, None if there is none up to DEEPEST."""
        return self._needs[other][DEEPEST + change]

    def needs(self, other):
        """Return the list of the least begins of the rises from 0 to below FARTHEST."""
        return self._needs[other][DEEPEST:DEEPEST + FARTHEST]

    def numbers(self, other, change):
        """Return the numbers of the moves of a run from the least begin."""
        numbers = []
        number = self._last[other][DEEPEST + change]
        while number is not None:
            numbers.append(number)
            other = self._moves[number][0]
            change -= self._moves[number][2]
            number = self._last[other][DEEPEST + change]
        return numbers[::-1]

    def _fill(self, start):
        leaving = [[] for _ in self._needs]
        for number, (place, least, step, other) in enumerate(self._moves):
            leaving[place].append((number, least, step, other))
        waiting = [[] for _ in range(DEEPEST + 1)]
        waiting[0].append((start, 0))
        # A run never needs less than what it begins with, so by rising need each is final when it is taken.
        for need in range(DEEPEST + 1):
            self._spread(need, leaving, waiting)

    def _spread(self, need, leaving, waiting):
        queue = waiting[need]
        taken = 0
        while taken < len(queue):
            place, change = queue[taken]
            taken += 1
            if self._needs[place][DEEPEST + change] == need:
                for number, least, step, other in leaving[place]:
                    self._reach(max(need, least - change), other, change + step, number, waiting)

    def _reach(self, need, other, change, number, waiting):
        if need > DEEPEST or change > HIGHEST:
            return
        known = self._needs[other][DEEPEST + change]
        if known is None or need < known:
            self._needs[other][DEEPEST + change] = need
            self._last[other][DEEPEST + change] = number
            waiting[need].append((other, change))
