"""Classes of numbers: a tuple (rest, step) stands for rest, rest + step and so on, with rest below step."""

from math import gcd, lcm

# So many numbers, or so many for each class, are looked through one by one; more are parted by a step first.
WIDEST = 5000
WIDEST_EACH = 4


def class_along(first, step, rest, other):
    """Return the class of the k for which first + k * step leaves this rest by the step other, None if none does."""
    common = gcd(step, other)
    if (rest - first) % common != 0:
        return None
    period = other // common
    return ((rest - first) // common * _inverse(step // common, period) % period, period)


def left_out(classes, many, most):
    """Return the list of the numbers from 0 to below many that are in no class, None if they are more than most.

    There is no end for many None, and then either none or too many are left out.
    """
    common = 1
    for _, step in classes:
        if step == 1:
            return []
        common = lcm(common, step)
    if _surely_more(classes, common, many, most):
        return None
    size = common if many is None else min(common, many)
    if size > max(WIDEST, WIDEST_EACH * (most + len(classes))):
        return _left_out_by_parts(classes, many, most)
    rests = _rests_left_out(classes, size)
    if many is None:
        return None if rests else []
    if sum([(many - 1 - rest) // common + 1 for rest in rests]) > most:
        return None
    return [number for rest in rests for number in range(rest, many, common)]


def _surely_more(classes, common, many, most):
    """Return whether the classes would leave out more than most even if they had no number in common."""
    if many is None:
        return sum([common // step for _, step in classes]) < common
    return many - sum([max(0, (many - 1 - rest) // step + 1) for rest, step in classes]) > most


def _rests_left_out(classes, size):
    left = [True] * size
    for rest, step in classes:
        left[rest::step] = [False] * len(range(rest, size, step))
    return [at for at in range(size) if left[at]]


def _left_out_by_parts(classes, many, most):
    """Return what left_out does, found for each rest by the least step of the classes.

    This step is at most twice the number of classes: together they hold three of four numbers and more, and
    one for each class is at most one of four.
    """
    part = min([step for _, step in classes])
    found = []
    for start in range(part):
        along = [class_along(start, part, rest, step) for rest, step in classes]
        inner = None if many is None else (many - 1 - start) // part + 1
        left = left_out([one for one in along if one is not None], inner, most - len(found))
        if left is None:
            return None
        found.extend([start + part * at for at in left])
    return found


def _inverse(number, modulus):
    """Return what a number has to be multiplied by to leave the rest 1; both have no divisor in common."""
    older, newer = modulus, number % modulus
    back, forth = 0, 1
    while newer > 1:
        times = older // newer
        older, newer = newer, older - times * newer
        back, forth = forth, back - times * forth
    return forth % modulus
