"""Tests of promises [75], [76] and [77], and of [2] and [3] for libraries."""

import random
import time
import unittest

from floorwalks.ends import comes_to
from floorwalks.errors import InvalidName, InvalidNumber, InvalidProgram, NothingToUndo, TakenName, UnknownName, WalkError
from floorwalks.library import Library
from floorwalks.live import Live
from floorwalks.pairs import turned, unlike
from floorwalks.programs import Program
from floorwalks.texts import read_program, text_of

from drawn import NAMES, clock, drawn_full_program, drawn_program, hard_programs, mill, some_values

WORDS = ["a", "b", "ab", "abcdefgh", "m", "z", "zz"]
NO_NAMES = ["", "abcdefghi", "A", "aB", "a1", "a b", "a\n", " a", "\u00e4", "\uff41", "_", b"a", ("a",), ["a"], {"a": 1}]
GREAT = 10 ** 40 - 7


def well():
    return Program(["up", "down"], [("up", 0, 3, "up"), ("up", 2, -2, "down"), ("down", 8, -4, "down")])


def is_counter(value):
    return isinstance(value, int) and not isinstance(value, bool) and value >= 0


def is_text(value, *words):
    return isinstance(value, str) and value in words


def alike_one_by_one(kept, program):
    names = []
    for name in sorted(kept):
        try:
            if unlike(kept[name], program) is None:
                names.append(name)
        except WalkError:
            pass
    return names


def coming_one_by_one(kept, place, counter, other, end):
    names = []
    for name in sorted(kept):
        try:
            if comes_to(kept[name], place, counter, other, end) is not None:
                names.append(name)
        except WalkError:
            pass
    return names


class LibraryCase(unittest.TestCase):
    def check_refused(self, library, error, held, called):
        """Check that a call raises an error and changes nothing."""
        before = (library.copy(), library.names(), library.log())
        with self.assertRaises(error) as caught:
            called()
        self.assertIs(caught.exception.__class__, error)
        if error is not NothingToUndo:
            self.assertIs(caught.exception.value if error in (InvalidProgram, InvalidNumber) else caught.exception.name, held)
        self.assertEqual((library, library.names(), library.log()), before)

    def check_keeps(self, library, kept, log):
        """Check that just these programs are kept, the very ones."""
        names = sorted(kept)
        self.assertIsInstance(library.names(), list)
        self.assertEqual(library.names(), names)
        self.assertEqual([name for name in library], names)
        self.assertIs(type(len(library)), int)
        self.assertEqual(len(library), len(names))
        for name in WORDS:
            self.assertIs(name in library, name in kept)
            if name in kept:
                self.assertIs(library.program_of(name), kept[name])
            else:
                with self.assertRaises(UnknownName) as caught:
                    library.program_of(name)
                self.assertIs(caught.exception.name, name)
        self.assertIsInstance(library.log(), list)
        self.assertEqual(library.log(), log)
        self.assertTrue(all(isinstance(step, tuple) for step in library.log()))


class StepTests(LibraryCase):
    def test_by_hand(self):
        library = Library()
        one, two, three = mill(), well(), mill()
        self.check_keeps(library, {}, [])
        self.assertIsNone(library.put("m", one))
        self.assertIsNone(library.put("a", two))
        self.check_keeps(library, {"a": two, "m": one}, [("put", "m"), ("put", "a")])
        self.assertIsNone(library.change("m", three))
        self.check_keeps(library, {"a": two, "m": three}, [("put", "m"), ("put", "a"), ("change", "m")])
        self.assertIsNone(library.drop("a"))
        log = [("put", "m"), ("put", "a"), ("change", "m"), ("drop", "a")]
        self.check_keeps(library, {"m": three}, log)
        self.assertIsNone(library.back())
        self.check_keeps(library, {"a": two, "m": three}, log[:3])
        library.back()
        self.check_keeps(library, {"a": two, "m": one}, log[:2])
        library.back()
        library.back()
        self.check_keeps(library, {}, [])
        self.check_refused(library, NothingToUndo, None, library.back)

    def test_names_of_the_arguments(self):
        library = Library()
        library.put(program=mill(), name="a")
        library.put(name="b", program=mill())
        library.change(program=well(), name="a")
        library.drop(name="b")
        self.assertEqual(library.program_of(name="a"), well())
        self.assertEqual(library.alike(program=well()), ["a"])
        self.assertEqual(library.coming(end=0, other="down", counter=2, place="up"), ["a"])

    def test_a_name_that_was_dropped(self):
        library = Library()
        library.put("a", mill())
        library.drop("a")
        self.check_refused(library, UnknownName, "a", lambda: library.drop("a"))
        self.check_refused(library, UnknownName, "a", lambda: library.change("a", mill()))
        again = well()
        library.put("a", again)
        self.check_keeps(library, {"a": again}, [("put", "a"), ("drop", "a"), ("put", "a")])

    def test_eight_programs(self):
        library = Library()
        programs = {name: drawn_program(random.Random(at)) for at, name in enumerate("hgfedcba")}
        for name, program in programs.items():
            library.put(name, program)
        self.assertEqual(library.names(), list("abcdefgh"))
        self.assertEqual(len(library), 8)
        for name, program in programs.items():
            self.assertIs(library.program_of(name), program)

    def test_put_asks_for_the_name_first(self):
        library = Library()
        library.put("a", mill())
        programs = [value for value in some_values() if not isinstance(value, Program)]
        for program in [mill()] + programs:
            for name in NO_NAMES + [value for value in some_values() if not is_text(value, "a", "up")]:
                self.check_refused(library, InvalidName, name, lambda: library.put(name, program))
            self.check_refused(library, TakenName, "a", lambda: library.put("a", program))
        for program in programs:
            self.check_refused(library, InvalidProgram, program, lambda: library.put("b", program))
        self.assertEqual(library.log(), [("put", "a")])

    def test_names_that_are_not_kept(self):
        library = Library()
        library.put("a", mill())
        programs = [value for value in some_values() if not isinstance(value, Program)]
        for name in NO_NAMES + ["b", "aa"] + [value for value in some_values() if not is_text(value, "a")]:
            self.check_refused(library, UnknownName, name, lambda: library.drop(name))
            self.check_refused(library, UnknownName, name, lambda: library.program_of(name))
            for program in [mill(), None, name]:
                self.check_refused(library, UnknownName, name, lambda: library.change(name, program))
            self.assertIs(name in library, False)
        for program in programs:
            self.check_refused(library, InvalidProgram, program, lambda: library.change("a", program))
        self.assertIs("a" in library, True)
        self.assertIs("a" not in library, False)

    def test_what_is_no_program(self):
        library = Library()
        for value in [clock(), Live(mill()), library, text_of(mill()), mill().moves()]:
            self.check_refused(library, InvalidProgram, value, lambda: library.put("a", value))
            self.check_refused(library, InvalidProgram, value, lambda: library.alike(value))

    def test_lists_that_were_changed(self):
        library = Library()
        program = mill()
        library.put("m", program)
        library.put("a", program)
        for told in [library.names(), library.log(), library.alike(mill()), library.coming("up", 2, "down", 0),
                     library.program_of("a").moves()]:
            self.assertTrue(told)
            told.clear()
        self.check_keeps(library, {"a": program, "m": program}, [("put", "m"), ("put", "a")])
        self.assertEqual(library.alike(mill()), ["a", "m"])
        self.assertEqual(library.coming("up", 2, "down", 0), ["a", "m"])
        self.assertIsNot(library.names(), library.names())
        self.assertEqual(program, mill())


class LoopTests(LibraryCase):
    def test_over_the_names_as_they_stand_when_it_begins(self):
        library = Library()
        for name in ["m", "a", "z"]:
            library.put(name, mill())
        met = []
        for name in library:
            met.append(name)
            if name == "a":
                library.put("b", mill())
                library.drop("m")
                library.drop("z")
            if name == "m":
                for _ in range(3):
                    library.back()
                library.put("zz", mill())
        self.assertEqual(met, ["a", "m", "z"])
        self.assertEqual(list(library), ["a", "m", "z", "zz"])
        for name in library:
            library.drop(name)
        self.assertEqual(list(library), [])

    def test_loops_within_loops(self):
        library = Library()
        for name in ["b", "a"]:
            library.put(name, mill())
        self.assertEqual([(one, two) for one in library for two in library], [("a", "a"), ("a", "b"), ("b", "a"), ("b", "b")])
        first = iter(library)
        self.assertEqual(next(first), "a")
        self.assertEqual(sorted(library), ["a", "b"])
        self.assertEqual(next(first), "b")
        copied = library.copy()
        copied.drop("a")
        self.assertEqual(list(library), ["a", "b"])


class AlikeTests(LibraryCase):
    def test_by_hand(self):
        library = Library()
        twice = Program(["up", "down"], mill().moves() + [("up", 4, 3, "up")])
        for name, program in [("w", well()), ("t", twice), ("m", mill()), ("r", Program(["down", "up"], mill().moves())),
                              ("f", Program(["up", "down", "far"], mill().moves())), ("o", Program(["a"], []))]:
            library.put(name, program)
        self.assertEqual(library.alike(mill()), ["m", "t"])
        self.assertEqual(library.alike(well()), ["w"])
        self.assertEqual(library.alike(Program(["down", "up"], mill().moves())), ["r"])
        self.assertEqual(library.alike(Program(["a", "b"], [])), [])
        self.assertEqual(library.alike(Program(["a"], [("a", 7, 0, "a")])), ["o"])
        self.assertEqual(Library().alike(mill()), [])

    def test_errors(self):
        for library in [Library(), self.of_one()]:
            for value in some_values():
                if not isinstance(value, Program):
                    self.check_refused(library, InvalidProgram, value, lambda: library.alike(value))

    def of_one(self):
        library = Library()
        library.put("a", mill())
        return library


class ComingTests(LibraryCase):
    def test_by_hand(self):
        library = Library()
        for name, program in [("w", well()), ("m", mill()), ("f", Program(["up", "down", "far"], mill().moves())), ("o", Program(["up"], [])),
                              ("b", Program(["up", "down"], []))]:
            library.put(name, program)
        self.assertEqual(library.coming("up", 2, "down", 0), ["f", "m", "w"])
        self.assertEqual(library.coming("down", 8, "down", 0), ["f", "m"])
        self.assertEqual(library.coming("down", 8, "down", 4), ["f", "m", "w"])
        self.assertEqual(library.coming("up", 5, "up", 5), ["b", "f", "m", "o", "w"])
        self.assertEqual(library.coming("down", 7, "down", 7), ["b", "f", "m", "w"])
        self.assertEqual(library.coming("far", 7, "far", 7), ["f"])
        self.assertEqual(library.coming("up", 7, "far", 7), [])
        self.assertEqual(library.coming("down", 10 ** 40, "down", 4), ["f", "m", "w"])
        self.assertEqual(Library().coming("up", 5, "up", 5), [])

    def test_places_of_all_kinds(self):
        library = Library()
        for name, program in [("m", mill()), ("a", Program(["a", "up"], []))]:
            library.put(name, program)
        for value in some_values() + NO_NAMES:
            names = ["a", "m"] if is_text(value, "up") else ["a"] if is_text(value, "a") else []
            self.assertEqual(library.coming(value, 4, value, 4), names)
            self.assertEqual(library.coming("up", 4, value, 4), ["a", "m"] if is_text(value, "up") else [])
            self.assertEqual(library.coming(value, 4, "up", 4), ["a", "m"] if is_text(value, "up") else [])

    def test_errors(self):
        full = Library()
        full.put("m", mill())
        for library in [Library(), full]:
            for value in some_values():
                if not is_counter(value):
                    for place in ["up", None, value, []]:
                        for end in [0, value, None]:
                            self.check_refused(library, InvalidNumber, value, lambda: library.coming(place, value, place, end))
                        self.check_refused(library, InvalidNumber, value, lambda: library.coming(place, 3, place, value))


class EqualityTests(LibraryCase):
    def test_equal_programs_by_the_same_names(self):
        one, two = Library(), Library()
        self.assertIs(one == two, True)
        self.assertIs(one != two, False)
        one.put("a", mill())
        self.assertIs(one == two, False)
        self.assertIs(one != two, True)
        one.put("b", well())
        two.put("b", well())
        two.put("a", well())
        self.assertFalse(one == two)
        two.change("a", mill())
        self.assertTrue(one == two)
        two.drop("b")
        self.assertFalse(one == two or two == one)
        two.put("c", well())
        self.assertFalse(one == two or two == one)
        two.back()
        two.back()
        self.assertTrue(one == two and two == one)

    def test_other_objects(self):
        library = Library()
        library.put("a", mill())
        for one in [library, Library()]:
            for value in some_values() + [one.names(), {name: one.program_of(name) for name in one}]:
                if not isinstance(value, Library):
                    self.assertIs(one == value, False)
                    self.assertIs(one != value, True)
                    self.assertIs(value == one, False)


class CopyTests(LibraryCase):
    def test_each_goes_its_own_way(self):
        library = Library()
        one, two, three = mill(), well(), mill()
        library.put("a", one)
        library.put("b", two)
        library.change("a", three)
        log = [("put", "a"), ("put", "b"), ("change", "a")]
        copied = library.copy()
        self.assertIsInstance(copied, Library)
        self.check_keeps(copied, {"a": three, "b": two}, log)
        copied.drop("a")
        copied.put("z", one)
        self.check_keeps(library, {"a": three, "b": two}, log)
        library.back()
        library.back()
        library.put("m", two)
        self.check_keeps(library, {"a": one, "m": two}, [("put", "a"), ("put", "m")])
        self.check_keeps(copied, {"b": two, "z": one}, log + [("drop", "a"), ("put", "z")])
        for _ in range(4):
            copied.back()
        self.check_keeps(copied, {"a": one}, log[:1])
        copied.back()
        self.check_refused(copied, NothingToUndo, None, copied.back)
        self.check_keeps(library, {"a": one, "m": two}, [("put", "a"), ("put", "m")])


class DrawnTests(LibraryCase):
    """Drawn steps, refused ones too, against a plain dictionary kept here alone."""

    def drawn_programs(self, rng):
        one = drawn_program(rng)
        other = Program(one.places(), one.moves()[::-1])
        programs = [one, other, turned(turned(one)), read_program(text_of(one)), Program(one.places(), one.moves()[:-1]),
                    drawn_program(rng), drawn_program(rng)]
        return programs + [None, "a", clock(), Live(one)]

    def one_step(self, rng, library, kept, history, programs):
        """Do a step and return what is kept behind it."""
        kind = rng.choice(["put", "put", "put", "drop", "change", "change", "back", "back"])
        name, program = rng.choice(WORDS + [None, "A", ["a"], 3]), rng.choice(programs)
        is_known = isinstance(name, str) and name in kept
        if kind == "back":
            if history:
                self.assertIsNone(library.back())
                return history.pop()[1]
            self.check_refused(library, NothingToUndo, None, library.back)
            return kept
        called = {"put": lambda: library.put(name, program), "drop": lambda: library.drop(name),
                  "change": lambda: library.change(name, program)}[kind]
        if kind == "put" and name not in WORDS:
            self.check_refused(library, InvalidName, name, called)
        elif kind == "put" and is_known:
            self.check_refused(library, TakenName, name, called)
        elif kind != "put" and not is_known:
            self.check_refused(library, UnknownName, name, called)
        elif kind != "drop" and not isinstance(program, Program):
            self.check_refused(library, InvalidProgram, program, called)
        else:
            self.assertIsNone(called())
            history.append(((kind, name), kept))
            behind = {one: kept[one] for one in kept if one != name}
            return behind if kind == "drop" else {**behind, name: program}
        return kept

    def check_asked(self, rng, library, kept, programs):
        program = rng.choice(programs[:7])
        self.assertEqual(library.alike(program), alike_one_by_one(kept, program))
        asked = (rng.choice(NAMES), rng.randint(0, 12), rng.choice(NAMES), rng.choice([rng.randint(0, 20), GREAT]))
        self.assertEqual(library.coming(*asked), coming_one_by_one(kept, *asked))

    def test_drawn_steps(self):
        rng = random.Random(75)
        for _ in range(12):
            programs = self.drawn_programs(rng)
            libraries = [(Library(), {}, [])]
            for _ in range(100):
                at = rng.randrange(len(libraries))
                library, kept, history = libraries[at]
                kept = self.one_step(rng, library, kept, history, programs)
                libraries[at] = (library, kept, history)
                if rng.random() < 0.05 and len(libraries) < 4:
                    libraries.append((library.copy(), kept, list(history)))
                for one, held, steps in libraries:
                    self.check_keeps(one, held, [step for step, _ in steps])
                    self.assertIs(one == library, held == kept)
                    self.assertIs(one != library, held != kept)
                if rng.random() < 0.3:
                    self.check_asked(rng, library, kept, programs)
            for library, _, history in libraries:
                while history:
                    library.back()
                    _, kept = history.pop()
                    self.check_keeps(library, kept, [step for step, _ in history])
                self.check_refused(library, NothingToUndo, None, library.back)

    def test_eight_full_programs_in_seconds(self):
        rng = random.Random(76)
        programs = hard_programs()[:4] + [drawn_full_program(rng) for _ in range(3)]
        library = Library()
        for name, program in zip("hgfedcba", programs + [Program(programs[0].places(), programs[0].moves())]):
            library.put(name, program)
        began = time.perf_counter()
        self.assertEqual(library.alike(programs[0]), ["a", "h"])
        kept = {name: library.program_of(name) for name in library}
        for asked in [("a", GREAT, "d", 3), ("d", 0, "a", GREAT), ("b", 10 ** 30, "b", GREAT)]:
            self.assertEqual(library.coming(*asked), coming_one_by_one(kept, *asked))
        self.assertLess(time.perf_counter() - began, 10)


if __name__ == "__main__":
    unittest.main()
