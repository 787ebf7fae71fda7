"""Tests of promises [1], [2] and [3] over the whole program: every name of the interface, in any order, within seconds."""

import copy
import importlib
import inspect
import random
import time
import unittest

from floorwalks.errors import WalkError
from floorwalks.library import Library
from floorwalks.live import Live
from floorwalks.pairs import turned
from floorwalks.programs import Program
from floorwalks.rows import led
from floorwalks.tested import Tested
from floorwalks.texts import read_program, text_of

from drawn import NAMES, drawn_full_program, hard_programs, mill

GREAT = 10 ** 40 - 7

FUNCTIONS = {
    "rows": ["is_row(program, place, value)", "change_of(program, row)", "need_of(program, row)", "led(program, place, counter, row)"],
    "begins": ["least_for(program, place, other, change)", "row_for(program, place, other, change)", "steps_of(program, place, other)"],
    "ends": ["comes_to(program, place, counter, other, end)", "next_end(program, place, counter, other, number)",
             "how_many(program, place, counter, other, low, high)", "least_begin(program, place, other, end)",
             "least_begin_for(program, place, other, number)"],
    "kept": ["holds(stretches, number)", "ends_of(program, place, counter)", "is_kept(program, value)"],
    "heights": ["least_endless(program, place)", "endless(program, place, counter)", "longest(program, place, counter)",
                "top_of(program, place, counter, row)", "least_top(program, place, counter, other, end)",
                "row_below(program, place, counter, other, end)"],
    "pairs": ["turned(program)", "unlike(program, other)", "beyond(program, other)",
              "joined(program, other, place, middle, last, change)", "joined_rows(program, other, place, middle, last, change)"],
    "tested": ["led_tested(tested, place, counter, row)", "tested_row(tested, place, counter, other, end)",
               "tested_ends(tested, place, counter)", "is_tested_kept(tested, value)"],
    "texts": ["text_of(program)", "read_program(text)"],
}
CLASSES = {
    ("programs", "Program(places, moves)"): ["places()", "moves()"],
    ("tested", "Tested(program, tests)"): ["base()", "tests()"],
    ("live", "Live(program)"): ["add(move)", "drop(number)", "change(number, move)", "shown()", "least_for(place, other, change)",
                                "least_endless(place)", "back()", "log()", "copy()"],
    ("library", "Library()"): ["put(name, program)", "drop(name)", "change(name, program)", "program_of(name)", "names()",
                               "alike(program)", "coming(place, counter, other, end)", "back()", "log()", "copy()"],
}
SIGNS = {"Program": ["__eq__"], "Tested": ["__eq__"], "Live": ["__eq__", "__len__"],
         "Library": ["__eq__", "__len__", "__contains__", "__iter__"]}
ERRORS = ["WalkError", "InvalidNumber", "InvalidList", "InvalidItem", "InvalidProgram", "InvalidRow", "InvalidText", "InvalidName",
          "TakenName", "UnknownName", "NothingToUndo"]


def named(module, name):
    return getattr(importlib.import_module("floorwalks." + module), name)


def parted(told):
    """The name and the list of the arguments' names of a line of the interface."""
    name, inner = told.rstrip(")").split("(")
    return name, [part for part in inner.split(", ") if part]


def every_function():
    return [(module,) + tuple(parted(told)) for module, lines in FUNCTIONS.items() for told in lines]


def lists_in(value):
    """All list objects in a value, however deep."""
    if isinstance(value, list):
        return [value] + [found for item in value for found in lists_in(item)]
    return [found for item in value for found in lists_in(item)] if isinstance(value, tuple) else []


def is_told_kind(value):
    if isinstance(value, (list, tuple)):
        return all(is_told_kind(item) for item in value)
    return value is None or type(value) in (bool, int, str, Program, Tested, Live, Library)


def copied(value):
    """A copy that shares no list and no object of the package."""
    if isinstance(value, Program):
        return Program(value.places(), value.moves())
    if isinstance(value, Tested):
        return Tested(copied(value.base()), value.tests())
    if isinstance(value, (list, tuple)):
        return type(value)([copied(item) for item in value])
    return value


def questions(program, other):
    """For each function a list of tuples of arguments in the order of the interface."""
    tested = Tested(program, [("a", 3, "b"), ("c", 8, "a"), ("d", 0, "d"), ("b", 1, "c")])
    number = 0
    begin, end = program.moves()[number][0], program.moves()[number][3]
    row = [(GREAT, [number])] if begin == end else [(1, [number])]
    told = named("kept", "ends_of")(program, "a", GREAT)
    walk = named("tested", "tested_row")(tested, "a", 40, "a", 3) or [[]]
    asked = {
        "is_row": [(begin, row), (begin, walk), ("a", [])], "change_of": [(row,), ([],)], "need_of": [(row,), ([],)],
        "led": [(begin, GREAT, row), ("b", 0, [])],
        "least_for": [("a", "d", GREAT), ("b", "a", -GREAT), ("c", "c", 3)], "row_for": [("a", "d", GREAT), ("b", "a", -GREAT), ("c", "d", -3)],
        "steps_of": [("a", "d"), ("b", "b")],
        "comes_to": [("a", GREAT, "d", 5), ("d", 5, "a", GREAT), ("b", 40, "c", 44)], "next_end": [("a", GREAT, "d", 10 ** 30), ("c", 9, "d", GREAT)],
        "how_many": [("a", GREAT, "d", 0, 10 ** 41), ("c", 5, "d", GREAT, 2 * GREAT), ("c", 5, "d", 9, 5)],
        "least_begin": [("a", "d", GREAT), ("d", "a", 3)], "least_begin_for": [("a", "d", GREAT), ("d", "a", 3)],
        "ends_of": [("a", GREAT), ("c", 0)], "is_kept": [(told,), (told[:2],)],
        "least_endless": [("a",), ("d",)], "endless": [("a", GREAT), ("c", 0)], "longest": [("a", 1000), ("c", 6)],
        "top_of": [(begin, GREAT, row)], "least_top": [("a", GREAT, "d", GREAT - 60), ("b", 3, "c", 60)],
        "row_below": [("a", GREAT, "d", GREAT - 60), ("b", 3, "c", 60)],
        "turned": [()], "unlike": [(other,)], "beyond": [(other,)], "joined": [(other, "a", "c", "d", GREAT), (other, "a", "c", "d", -GREAT)],
        "joined_rows": [(other, "a", "c", "d", GREAT), (other, "b", "c", "a", -GREAT)],
        "text_of": [()],
    }
    asked = {name: [(program,) + rest for rest in lines] for name, lines in asked.items()}
    asked["holds"] = [(told[0][1], GREAT), (told[3][1], 4)]
    asked["read_program"] = [(text_of(program),)]
    ends = named("tested", "tested_ends")(tested, "a", GREAT)
    asked["led_tested"] = [(tested, "a", 40, walk)]
    asked["tested_row"] = [(tested, "a", GREAT, "d", 5), (tested, "a", 0, "d", GREAT), (tested, "c", 8, "a", 3)]
    asked["tested_ends"] = [(tested, "a", GREAT), (tested, "d", 0)]
    asked["is_tested_kept"] = [(tested, ends), (tested, told)]
    return asked


class InterfaceTests(unittest.TestCase):
    def test_functions(self):
        for module, name, arguments in every_function():
            called = named(module, name)
            self.assertTrue(inspect.isfunction(called), name)
            self.assertEqual(called.__module__, "floorwalks." + module)
            self.assertEqual(list(inspect.signature(called).parameters), arguments, name)

    def test_classes(self):
        for (module, told), methods in CLASSES.items():
            name, arguments = parted(told)
            made = named(module, name)
            self.assertTrue(inspect.isclass(made))
            self.assertEqual(made.__module__, "floorwalks." + module)
            self.assertEqual(list(inspect.signature(made).parameters), arguments)
            for method in methods:
                inner, behind = parted(method)
                self.assertEqual(list(inspect.signature(made.__dict__[inner]).parameters), ["self"] + behind, method)
            for sign in SIGNS[name]:
                self.assertIn(sign, made.__dict__)

    def test_errors(self):
        for name in ERRORS:
            made = named("errors", name)
            self.assertEqual(made.__module__, "floorwalks.errors")
            self.assertEqual(made.__bases__, (ValueError if name == "WalkError" else WalkError,))


class AskedTests(unittest.TestCase):
    def every_question(self, program, other):
        asked = questions(program, other)
        self.assertEqual(sorted(asked), sorted(name for _, name, _ in every_function()))
        return [(named(module, name), names, arguments) for module, name, names in every_function() for arguments in asked[name]]

    def pairs(self):
        rng = random.Random(2)
        programs = hard_programs()[:6:2] + [drawn_full_program(rng)]
        return [(one, Program(one.places(), one.moves()[::-1][1:])) for one in programs]

    def test_by_name_in_another_order(self):
        rng = random.Random(3)
        for one, other in self.pairs():
            for called, names, arguments in self.every_question(one, other):
                by_name = list(zip(names, arguments))
                told = called(*arguments)
                for _ in range(2):
                    rng.shuffle(by_name)
                    self.assertEqual(called(**dict(by_name)), told, called.__name__)

    def test_twice_in_another_order_and_between_others(self):
        rng = random.Random(4)
        for one, other in self.pairs():
            asked = self.every_question(one, other)
            first = [called(*arguments) for called, _, arguments in asked]
            kept = copied(first)
            order = list(range(len(asked)))
            rng.shuffle(order)
            for at in order:
                called, _, arguments = asked[at]
                self.assertEqual(called(*arguments), kept[at], called.__name__)
                # Equal arguments, of which nothing was asked before.
                self.assertEqual(called(*copied(arguments)), kept[at], called.__name__)
            self.assertEqual(first, kept)

    def test_what_is_told_belongs_to_the_caller(self):
        for one, other in self.pairs():
            for called, _, arguments in self.every_question(one, other):
                before = copied(arguments)
                told = called(*arguments)
                self.assertTrue(is_told_kind(told), called.__name__)
                self.assertEqual(arguments, before, called.__name__)
                lists = lists_in(told)
                self.assertEqual(len({id(found) for found in lists}), len(lists), called.__name__)
                own = {id(found) for found in lists_in(arguments)}
                self.assertFalse(own & {id(found) for found in lists}, called.__name__)
                kept = copied(told)
                for found in lists:
                    found.clear()
                    found.append("other")
                self.assertEqual(arguments, before, called.__name__)
                self.assertEqual(called(*arguments), kept, called.__name__)

    def test_arguments_that_are_changed_behind_a_call(self):
        places, moves, tests = list(NAMES), hard_programs()[0].moves(), [("a", 3, "b")]
        program = Program(places, moves)
        tested = Tested(program, tests)
        live, library = Live(program), Library()
        library.put("a", program)
        live.drop(0)
        for one in (places, moves, tests):
            one.clear()
        again = hard_programs()[0]
        self.assertEqual((program, tested, library.program_of("a")), (again, Tested(again, [("a", 3, "b")]), again))
        self.assertEqual(live.shown().moves(), again.moves()[1:])
        live.back()
        self.assertEqual(live.shown(), again)

    def test_each_within_seconds(self):
        rng = random.Random(5)
        for one in hard_programs() + [drawn_full_program(rng) for _ in range(2)]:
            other = Program(one.places(), one.moves()[::-1])
            for called, _, arguments in self.every_question(one, other):
                fresh = copied(arguments)
                began = time.perf_counter()
                called(*fresh)
                self.assertLess(time.perf_counter() - began, 5, called.__name__)

    def test_wherever_the_program_is_from(self):
        one, other = self.pairs()[0]
        live, library = Live(Program(one.places(), one.moves()[:-1])), Library()
        live.add(one.moves()[-1])
        library.put("x", turned(turned(one)))
        for program in [live.shown(), library.program_of("x"), read_program(text_of(one)), Tested(one, []).base(), live.copy().shown()]:
            for (called, _, arguments), (_, _, again) in zip(self.every_question(one, other), self.every_question(program, other)):
                self.assertEqual(called(*again), called(*arguments), called.__name__)


class RefusedTests(unittest.TestCase):
    def test_a_refused_call_leaves_everything(self):
        program = mill()
        row = [(2, [0]), (1, [7])]
        kept = copy.deepcopy(row)
        for _ in range(2):
            with self.assertRaises(WalkError) as caught:
                led(program, "up", 3, row)
            self.assertIs(caught.exception.value, row)
            self.assertEqual(row, kept)
        self.assertEqual(program, mill())


if __name__ == "__main__":
    unittest.main()
