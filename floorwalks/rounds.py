"""The common step of the rounds of a program, which are its runs from a place back to it, and least steps."""

from math import gcd, lcm


def common_step(moves, many):
    """Return the least number that is a multiple of what the rounds at each place have in common."""
    common = 1
    for start in range(many):
        step = _step_at(moves, start)
        if step > 0:
            common = lcm(common, step)
    return common


def least_step(items):
    """Return the least step by which the items of a list come again, if the list as a whole does."""
    many = len(items)
    return min([step for step in range(1, many + 1) if many % step == 0 and items[step:] + items[:step] == items])


def _step_at(moves, start):
    """Return the greatest divisor of the changes of all rounds that hang together with a place, 0 if there are none.

    Each place has the change of some one way to it. What a move differs from these changes is the change
    of rounds through it, and all rounds are made up of such differences.
    """
    changes = _changes_from(moves, start)
    step = 0
    for place, _, change, other in moves:
        if place in changes and start in _changes_from(moves, other):
            step = gcd(step, changes[place] + change - changes[other])
    return step


def _changes_from(moves, start):
    changes = {start: 0}
    waiting = [start]
    while waiting:
        at = waiting.pop()
        for place, _, change, other in moves:
            if place == at and other not in changes:
                changes[other] = changes[at] + change
                waiting.append(other)
    return changes
