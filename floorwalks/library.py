"""Libraries: programs kept by names, with steps that can be undone."""

from floorwalks.checks import check_counter, check_program
from floorwalks.errors import InvalidName, NothingToUndo, TakenName, UnknownName
from floorwalks.kinds import is_name
from floorwalks.pairs import unlike
from floorwalks.programs import is_among


class Library:
    """Programs by names."""

    def __init__(self):
        self._kept = {}
        # In order, for loops: it is replaced, never changed, so a loop goes over the names as it found them.
        self._names = []
        # Each step with the dict ahead of it; dicts are replaced, never changed, so copies may share them.
        self._steps = []

    def put(self, name, program):
        """Keep one more program by a name."""
        if not is_name(name):
            raise InvalidName(name)
        if name in self._kept:
            raise TakenName(name)
        check_program(program)
        self._do(("put", name), self._kept_with(name, program))

    def drop(self, name):
        """Take the program with a name out."""
        self._check_kept(name)
        self._do(("drop", name), {kept: self._kept[kept] for kept in self._names if kept != name})

    def change(self, name, program):
        """Replace the program with a name by another one."""
        self._check_kept(name)
        check_program(program)
        self._do(("change", name), self._kept_with(name, program))

    def program_of(self, name):
        """Return the program that is kept by a name."""
        self._check_kept(name)
        return self._kept[name]

    def names(self):
        """Return the list of all names in order."""
        return list(self._names)

    def alike(self, program):
        """Return the list of the names of the programs of which unlike with a program tells None."""
        check_program(program)
        return [name for name in self._names if _are_alike(self._kept[name], program)]

    def coming(self, place, counter, other, end):
        """Return the list of the names of the programs that come from place with counter to other with end."""
        check_counter(counter)
        check_counter(end)
        return [name for name in self._names if _comes(self._kept[name], place, counter, other, end)]

    def back(self):
        """Undo the last step."""
        if not self._steps:
            raise NothingToUndo()
        _, kept = self._steps.pop()
        self._keep(kept)

    def log(self):
        """Return the list of the steps that have not been undone."""
        return [step for step, _ in self._steps]

    def copy(self):
        """Return a library of its own that keeps the same programs and has the same steps to undo."""
        other = Library()
        other._keep(self._kept)
        other._steps = list(self._steps)
        return other

    def __len__(self):
        return len(self._names)

    def __contains__(self, name):
        return isinstance(name, str) and name in self._kept

    def __iter__(self):
        return iter(self._names)

    def __eq__(self, other):
        return isinstance(other, Library) and self._kept == other._kept

    def _check_kept(self, name):
        if not isinstance(name, str) or name not in self._kept:
            raise UnknownName(name)

    def _kept_with(self, name, program):
        kept = dict(self._kept)
        kept[name] = program
        return kept

    def _do(self, step, kept):
        self._steps.append((step, self._kept))
        self._keep(kept)

    def _keep(self, kept):
        self._kept = kept
        self._names = sorted(list(kept))


def _are_alike(program, other):
    return program.places() == other.places() and unlike(program, other) is None


def _comes(program, place, counter, other, end):
    places = program.places()
    return is_among(place, places) and is_among(other, places) and program.walks().comes(place, counter, other, end)
