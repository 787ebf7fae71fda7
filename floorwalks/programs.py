"""Programs: moves between a few places that add to one counter and take from it."""

from floorwalks.errors import InvalidItem, InvalidList
from floorwalks.kinds import is_between, is_name
from floorwalks.walks import Walks

MOST_PLACES = 4
MOST_MOVES = 10
MOST_LEAST = 8
MOST_CHANGE = 4


class Program:
    """A list of places and a list of moves (place, least, change, other)."""

    def __init__(self, places, moves):
        _check_places(places)
        _check_moves(moves, places)
        self._places = list(places)
        self._moves = list(moves)
        self._walks = Walks(self._places, self._moves)

    def places(self):
        """Return the list of places, as it was given."""
        return list(self._places)

    def moves(self):
        """Return the list of moves, as it was given."""
        return list(self._moves)

    def walks(self):
        """Return what is found out of the program's runs: it is found once, and it shows in no result."""
        return self._walks

    def __eq__(self, other):
        return isinstance(other, Program) and self._places == other._places and self._moves == other._moves


def is_move(value, places):
    """Return whether a value is a move between places of this list."""
    if not isinstance(value, tuple) or len(value) != 4:
        return False
    place, least, change, other = value
    if not is_among(place, places) or not is_among(other, places):
        return False
    if not is_between(least, 0, MOST_LEAST) or not is_between(change, -MOST_CHANGE, MOST_CHANGE):
        return False
    return 0 <= least + change <= MOST_LEAST


def is_among(value, places):
    """Return whether a value is one of the places of a list."""
    return isinstance(value, str) and value in places


def _check_places(places):
    if not isinstance(places, list) or not 1 <= len(places) <= MOST_PLACES:
        raise InvalidList(places)
    for at, place in enumerate(places):
        if not is_name(place) or place in places[:at]:
            raise InvalidItem(place)


def _check_moves(moves, places):
    if not isinstance(moves, list) or len(moves) > MOST_MOVES:
        raise InvalidList(moves)
    for move in moves:
        if not is_move(move, places):
            raise InvalidItem(move)
