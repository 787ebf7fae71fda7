"""What several tests share: programs, wrong values, and a search among counters that knows nothing of the package."""

from floorwalks.errors import InvalidNumber, NothingToUndo
from floorwalks.library import Library
from floorwalks.live import Live
from floorwalks.programs import Program
from floorwalks.rows import is_row, led
from floorwalks.tested import Tested

NAMES = ["a", "b", "c", "d"]


def mill():
    return Program(["up", "down"], [("up", 0, 3, "up"), ("up", 2, -2, "down"), ("down", 4, -4, "down")])


def some_values():
    """Values of all kinds; a test leaves out those that are right where it puts them."""
    deep = []
    for _ in range(18):
        deep = [deep]
    return [None, True, False, 0, 1, -1, 9, 10 ** 40, -10 ** 40, "", "a", "up", "A", "a b", "abcdefghi", "up\n", "\u00e4",
            [], [1], ["up"], [True], [[]], [()], [("up", 0, 0, "up")], (), (1, [0]), ("up",), ("up", 0, 0, "up"),
            {}, {"up": 1}, {0: [0]}, deep, mill(), Tested(mill(), []), Live(mill()), Library(),
            InvalidNumber(3), NothingToUndo()]


def clock():
    return Tested(mill(), [("down", 5, "up"), ("down", 0, "down")])


def drawn_tests(rng, places, most):
    return [(rng.choice(places), rng.randint(0, 8), rng.choice(places)) for _ in range(most)]


def drawn_moves(rng, many, most):
    moves = []
    while len(moves) < most:
        least, change = rng.randint(0, 8), rng.randint(-4, 4)
        if 0 <= least + change <= 8:
            moves.append((rng.choice(NAMES[:many]), least, change, rng.choice(NAMES[:many])))
    return moves


def drawn_program(rng):
    many = rng.randint(1, 4)
    return Program(NAMES[:many], drawn_moves(rng, many, rng.randint(0, 10)))


def drawn_full_program(rng):
    return Program(NAMES, drawn_moves(rng, 4, 10))


def turned_moves(moves):
    return [(other, least + change, -change, place) for place, least, change, other in moves]


def ring(names, steps):
    """A ring of moves, each of which needs no more than it takes."""
    return [(name, max(0, -step), step, names[(at + 1) % len(names)])
            for at, (name, step) in enumerate(zip(names, steps))]


def hard_programs():
    """Full programs whose least begins come again late, by great steps, or from high counters."""
    four, two, last = NAMES, NAMES[:2], NAMES[2:]
    return [
        Program(four, ring(four, [4, 4, 4, 4]) + ring(four, [3, 4, 4, 4]) + ring(four, [3, 4, 4, 4])[:2]),
        Program(four, ring(four, [4, 4, 4, 4]) + [("a", 5, 3, "b"), ("a", 8, 0, "c"), ("b", 8, -4, "d")]),
        Program(four, ring(four, [-4, -4, -4, -4]) + [("b", 3, -3, "c"), ("d", 8, -4, "a"), ("a", 8, -3, "b")]),
        Program(four, ring(four, [4, 4, 4, 4]) + ring(four, [-4, -4, -4, -3]) + [("a", 8, -1, "a"), ("c", 7, 1, "d")]),
        Program(four, ring(two, [-4, -3]) + [("b", 8, 0, "c")] + ring(last, [4, 4])),
        Program(four, ring(two, [4, 3]) + [("b", 8, 0, "c")] + ring(last, [-4, -4])),
        Program(four, [("a", 4, -4, "a"), ("a", 0, 0, "b")] + ring(four[1:], [4, 4, 3]) + [("c", 8, -1, "b")]),
        Program(four, ring(four[:3], [-4, -4, -3]) + [("c", 3, 1, "d"), ("d", 0, 4, "d"), ("d", 5, 3, "d")]),
        Program(four, [("a", 8, -4, "a"), ("a", 8, 0, "b"), ("b", 8, -3, "b"), ("b", 8, 0, "c"), ("c", 3, 3, "c"),
                       ("c", 8, 0, "d"), ("d", 4, 4, "d"), ("a", 8, -1, "d")]),
        Program(four, ring(four, [4, -4, 4, -3]) + ring(four, [-3, 4, -4, 4]) + [("d", 8, -2, "a"), ("b", 8, -1, "b")]),
        Program(four, [(name, 8, -1, name) for name in four] + ring(four, [1, 1, 1, 1])),
    ]


def drawn_climber(rng):
    """A program of two rings, one that rises and one that falls, and ways from the first to the second."""
    many, sign = rng.randint(1, 3), rng.choice([1, -1])
    first, second = NAMES[:many], NAMES[many:]
    moves = ring(first, [sign * rng.choice([4, 4, 3, 2]) for _ in first])
    moves += ring(second, [-sign * rng.choice([4, 4, 3, 2]) for _ in second])
    for _ in range(rng.randint(1, 4)):
        change = rng.choice([-4, -1, 0, 1, 4])
        moves.append((rng.choice(first), rng.choice([max(0, -change), 8 - max(0, change)]), change, rng.choice(second)))
    return Program(NAMES, [(place, rng.choice([least, least, rng.randint(least, 8 - max(0, change))]), change, other)
                           for place, least, change, other in moves])


def ends_by_search(moves, place, counter, ceiling, low=0):
    """All (place, counter) that can be come to without going above a ceiling, or below low."""
    seen = {(place, counter)}
    waiting = [(place, counter)]
    while waiting:
        at, held = waiting.pop()
        for start, least, change, other in moves:
            if start == at and held >= least and low <= held + change <= ceiling and (other, held + change) not in seen:
                seen.add((other, held + change))
                waiting.append((other, held + change))
    return seen


def numbers_up_to(stretches, most):
    """The numbers of at most a number that stretches hold, written out."""
    found = set()
    for first, step, many in stretches:
        stop = most + 1 if many is None else min(most + 1, first + many * step)
        found.update(range(first, stop, step))
    return found


def written_out(row):
    return [number for times, numbers in row for _ in range(times) for number in numbers]


def done_one_by_one(moves, counter, numbers):
    """The counter behind the moves, or None if one can't be done."""
    for number in numbers:
        if counter < moves[number][1]:
            return None
        counter += moves[number][2]
    return counter


def check_told_row(test, program, begin, row, end):
    """Check that a row that was told leads from one tuple (place, counter) to another and is not too long."""
    test.assertIs(is_row(program, begin[0], row), True)
    test.assertEqual(led(program, begin[0], begin[1], row), end, (program.moves(), begin))
    test.assertLessEqual(len(row), 10)
    test.assertLessEqual(sum(len(numbers) for _, numbers in row), 50000)
    test.assertEqual(len({id(numbers) for _, numbers in row}), len(row))
