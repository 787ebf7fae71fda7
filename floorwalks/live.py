"""Live programs: programs that are led on by deeds, each of which can be undone."""

from floorwalks.begins import least_for
from floorwalks.checks import check_program
from floorwalks.errors import InvalidItem, InvalidList, InvalidNumber, NothingToUndo
from floorwalks.heights import least_endless
from floorwalks.kinds import is_between
from floorwalks.programs import MOST_MOVES, Program, is_move


class Live:
    """A program as it stands behind the deeds that were done with it."""

    def __init__(self, program):
        check_program(program)
        self._program = program
        self._moves = program.moves()
        # Each deed with the moves ahead of it; lists of moves are replaced, never changed, so copies may share them.
        self._deeds = []

    def add(self, move):
        """Put a move behind the others."""
        self._check_move(move)
        if len(self._moves) >= MOST_MOVES:
            raise InvalidList(list(self._moves))
        self._do(("add", move), self._moves + [move])

    def drop(self, number):
        """Take the move with a number out."""
        self._check_number(number)
        self._do(("drop", number), self._moves[:number] + self._moves[number + 1:])

    def change(self, number, move):
        """Put a move in the place of the one with a number."""
        self._check_number(number)
        self._check_move(move)
        self._do(("change", number, move), self._moves[:number] + [move] + self._moves[number + 1:])

    def shown(self):
        """Return the program as it stands."""
        return self._program

    def least_for(self, place, other, change):
        """Return the least counter from which some run from place ends at other with this change, or None."""
        return least_for(self._program, place, other, change)

    def least_endless(self, place):
        """Return the least counter from which moves can be done without end, from place on, or None."""
        return least_endless(self._program, place)

    def back(self):
        """Undo the last deed."""
        if not self._deeds:
            raise NothingToUndo()
        _, moves = self._deeds.pop()
        self._stand(moves)

    def log(self):
        """Return the list of the deeds that have not been undone."""
        return [deed for deed, _ in self._deeds]

    def copy(self):
        """Return a live program of its own with the same program and the same deeds to undo."""
        other = Live(self._program)
        other._deeds = list(self._deeds)
        return other

    def __len__(self):
        return len(self._moves)

    def __eq__(self, other):
        return isinstance(other, Live) and self._program == other._program

    def _check_move(self, move):
        if not is_move(move, self._program.places()):
            raise InvalidItem(move)

    def _check_number(self, number):
        if not is_between(number, 0, len(self._moves) - 1):
            raise InvalidNumber(number)

    def _do(self, deed, moves):
        self._deeds.append((deed, self._moves))
        self._stand(moves)

    def _stand(self, moves):
        self._moves = moves
        self._program = Program(self._program.places(), moves)
