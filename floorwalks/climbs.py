"""A search for rows that lead from a counter to another one near it and keep as low as possible.

It need not go lower than REACH below both. Of the rows with the least top, a shortest one passes each level
below both ends on the way down to its lowest counter and on the way up, at one of 4 places and at most 3
below the level. Of 257 levels two would be passed alike; then what lies between them could be left out on
both sides, and what lies below them be raised by as much: the row is shorter, and its top no higher.
"""

REACH = 256


def lowest_climb(program, place, counter, other, end):
    """Return (top, numbers) of the moves of a row from place with counter to other with end that has the least top.

    Return None if no row leads there.
    """
    if not program.walks().comes(place, counter, other, end):
        return None
    moves, goal = program.moves(), (other, end)
    lowest = min(counter, end) - REACH
    came = {(place, counter): None}
    waiting = {counter: [(place, counter)]}
    top = counter - 1
    # All that can be come to below a top is found before anything above it, so it is found with its least top.
    while goal not in came:
        top += 1
        _spread(moves, lowest, top, came, waiting)
    return (max(top, counter, end), _numbers_to(came, goal))


def _spread(moves, lowest, top, came, waiting):
    queue = waiting.get(top, [])
    taken = 0
    while taken < len(queue):
        place, counter = queue[taken]
        taken += 1
        for number, (begin, least, change, other) in enumerate(moves):
            state = (other, counter + change)
            if begin == place and counter >= least and state[1] >= lowest and state not in came:
                came[state] = (number, (place, counter))
                if state[1] <= top:
                    queue.append(state)
                else:
                    waiting.setdefault(state[1], []).append(state)


def _numbers_to(came, state):
    numbers = []
    while came[state] is not None:
        number, state = came[state]
        numbers.append(number)
    return numbers[::-1]
