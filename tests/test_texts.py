"""Tests of promises [70] and [71], and of [2] and [3] for texts."""

import random
import re
import time
import unittest

from floorwalks.errors import InvalidProgram, InvalidText
from floorwalks.live import Live
from floorwalks.pairs import turned
from floorwalks.programs import Program
from floorwalks.texts import read_program, text_of

from drawn import clock, drawn_full_program, drawn_program, hard_programs, mill, some_values

MILL_TEXT = "places up down\nmove up 0 +3 up\nmove up 2 -2 down\nmove down 4 -4 down"
# Blanks, line ends, figures, signs and letters of the wide alphabet, and what is near to them.
ODD_BLANKS = ["\t", "\r", "\x0b", "\x0c", "\x1c", "\x1d", "\x1e", "\x1f", "\x00", "\x85", "\xa0", "\u1680", "\u2003", "\u2009",
              "\u200b", "\u2028", "\u2029", "\u202f", "\u205f", "\u3000", "\ufeff", "\r\n", "\\n"]
ODD_FIGURES = ["\u0663", "\u06f3", "\u0969", "\uff13", "\u00b3", "\u2083", "\u2462", "\u2162", "\U0001d7d1"]
ODD_SIGNS = ["\u2212", "\u2013", "\uff0b", "\uff0d", "\u207a"]
ODD_LETTERS = ["\u00e4", "\u00b5", "\u0430", "\uff41", "\u00aa", "\u0131", "\u017f", "\U0001d41a", "A", "Z", "_", "'"]
NAME = "([a-z]{1,8})"


def read_plainly(text):
    """The lists (places, moves) of a text, by patterns alone, or None."""
    lines = [line.strip(" ") for line in text.split("\n")]
    lines = [line for line in lines if line != ""]
    if not lines or not re.fullmatch(f"places( +{NAME})+", lines[0]):
        return None
    places = re.findall("[a-z]+", lines[0])[1:]
    moves = []
    for line in lines[1:]:
        found = re.fullmatch(f"move +{NAME} +([0-8]) +(\\+[0-4]|-[1-4]) +{NAME}", line)
        if found is None:
            return None
        moves.append((found.group(1), int(found.group(2)), int(found.group(3)), found.group(4)))
    if len(places) > 4 or len(set(places)) < len(places) or len(moves) > 10:
        return None
    if any(place not in places or other not in places or not 0 <= least + change <= 8 for place, least, change, other in moves):
        return None
    return (places, moves)


class TextTests(unittest.TestCase):
    def test_examples(self):
        self.assertEqual(
            [text_of(mill()).split("\n"), read_program(" places  a\n\nmove a 0 +0 a ").moves()],
            [["places up down", "move up 0 +3 up", "move up 2 -2 down", "move down 4 -4 down"], [("a", 0, 0, "a")]])

    def test_as_written(self):
        self.assertEqual(text_of(mill()), MILL_TEXT)
        self.assertEqual(text_of(Program(["a"], [])), "places a")
        self.assertEqual(text_of(Program(["b", "a"], [("a", 8, 0, "b"), ("a", 0, 4, "b"), ("b", 8, -4, "b")])),
                         "places b a\nmove a 8 +0 b\nmove a 0 +4 b\nmove b 8 -4 b")
        self.assertEqual(text_of(program=Program(["places", "move"], [("move", 1, -1, "places")])), "places places move\nmove move 1 -1 places")

    def test_every_change_has_its_sign(self):
        for least in range(9):
            for change in range(-4, 5):
                if 0 <= least + change <= 8:
                    program = Program(["a"], [("a", least, change, "a")])
                    text = "places a\nmove a " + "012345678"[least] + " " + "-+"[change >= 0] + "01234"[abs(change)] + " a"
                    self.assertEqual(text_of(program), text)
                    self.assertEqual(read_program(text), program)

    def test_drawn_programs_written_and_read_again(self):
        rng = random.Random(70)
        programs = hard_programs() + [drawn_program(rng) for _ in range(300)] + [drawn_full_program(rng) for _ in range(30)]
        for program in programs + [turned(program) for program in programs]:
            text = text_of(program)
            lines = [" ".join(["places"] + program.places())]
            lines += [f"move {place} {least} {'-' if change < 0 else '+'}{abs(change)} {other}" for place, least, change, other in program.moves()]
            self.assertEqual(text, "\n".join(lines))
            again = read_program(text)
            self.assertIsInstance(again, Program)
            self.assertEqual(again, program)
            self.assertEqual(text_of(again), text)

    def test_no_program(self):
        for value in some_values() + [clock(), Live(mill()), MILL_TEXT]:
            if not isinstance(value, Program):
                with self.assertRaises(InvalidProgram) as caught:
                    text_of(value)
                self.assertIs(caught.exception.value, value)


class ReadTests(unittest.TestCase):
    def check_refused(self, text):
        with self.assertRaises(InvalidText) as caught:
            read_program(text)
        self.assertIs(caught.exception.__class__, InvalidText)
        self.assertIs(caught.exception.value, text)

    def check_plainly(self, text):
        """Check that a text is read as by patterns alone, and return whether it is one."""
        told = read_plainly(text)
        if told is None:
            self.check_refused(text)
            return False
        program = read_program(text)
        self.assertEqual((program.places(), program.moves()), told, repr(text))
        return True

    def test_blanks_and_empty_lines_anywhere(self):
        for text in ["\n" + MILL_TEXT, MILL_TEXT + "\n", "\n\n  \n" + MILL_TEXT + "\n   \n\n", " " * 9 + MILL_TEXT, MILL_TEXT + " " * 9,
                     MILL_TEXT.replace(" ", "     "), MILL_TEXT.replace("\n", "  \n\n \n  ")]:
            self.assertEqual(read_program(text), mill())
        rng = random.Random(71)
        for _ in range(200):
            program = drawn_program(rng)
            text = "".join(sign + rng.choice(["", " ", "   "]) if sign == " " else
                           rng.choice(["", "  "]) + sign + rng.choice(["", "\n", " \n\n", "  "]) if sign == "\n" else sign
                           for sign in rng.choice(["", "\n", "  ", " \n"]) + text_of(program) + rng.choice(["", "\n", "  ", "\n \n"]))
            self.assertEqual(read_program(text=text), program)

    def test_names_that_are_words(self):
        program = read_program("places move places\nmove move 0 +1 places\nmove places 8 -4 move")
        self.assertEqual(program, Program(["move", "places"], [("move", 0, 1, "places"), ("places", 8, -4, "move")]))
        self.assertEqual(read_program("places places"), Program(["places"], []))

    def test_no_change_without_its_sign(self):
        for change in ["0", "3", "-0", "+5", "-5", "+9", "++3", "+-3", "--3", "+", "-", "+03", "-04", "+3.", "3+", "+ 3", "+00", "+ ", "~3"]:
            self.check_refused(f"places a\nmove a 4 {change} a")
        self.assertEqual(read_program("places a\nmove a 4 +0 a").moves(), [("a", 4, 0, "a")])
        self.assertEqual(read_program("places a\nmove a 4 -4 a").moves(), [("a", 4, -4, "a")])

    def test_leasts(self):
        for least in ["9", "08", "00", "+3", "-0", "12", "4.", "3_4", "a", "01", "34", "4 4"]:
            self.check_refused(f"places a\nmove a {least} +0 a")
        for least in range(9):
            self.assertEqual(read_program(f"places a\nmove a {least} +0 a").moves(), [("a", least, 0, "a")])
        for least, change in [("0", "-1"), ("3", "-4"), ("8", "+1"), ("5", "+4")]:
            self.check_refused(f"places a\nmove a {least} {change} a")

    def test_lines(self):
        for text in ["", " ", "\n", "   \n \n", "places", "place a", "places a\nplaces a", "places a\nplaces", "move a 0 +0 a", "a b",
                     "move a 0 +0 a\nplaces a", "places a\nmove", "places a\nmove a 0 +0", "places a\nmove a 0 +0 a a", "places a\nmove 0 +0 a",
                     "places a\nmoves a 0 +0 a", "places a\na 0 +0 a", "places a\nMove a 0 +0 a", "Places a", "placesa", "places a\nmovea 0 +0 a",
                     "places a\nmove a0 +0 a", "places a\nmove a 0+0 a", "places a\nmove a 0 +0a", "places a move a 0 +0 a", "places a b c d e",
                     "places a a", "places abcdefghi", "places A", "places a1", "places a\nmove b 0 +0 a", "places a\nmove a 0 +0 b",
                     "places a,b", "places\na", "places a\nb", "places a\n\nmove a 0\n+0 a", "# places a", "places a\n#"]:
            self.check_refused(text)

    def test_ten_moves_and_four_places(self):
        head, line = "places a b c abcdefgh", "\nmove abcdefgh 8 -4 a"
        self.assertEqual(read_program(head + 10 * line), Program(["a", "b", "c", "abcdefgh"], [("abcdefgh", 8, -4, "a")] * 10))
        self.check_refused(head + 11 * line)
        self.check_refused(head + " e" + line)

    def test_other_blanks_part_nothing(self):
        for odd in ODD_BLANKS:
            for text in [odd + MILL_TEXT, MILL_TEXT + odd, MILL_TEXT.replace(" ", odd), MILL_TEXT.replace(" ", odd, 1),
                         MILL_TEXT.replace("+3 ", "+3" + odd), MILL_TEXT.replace("\n", odd), MILL_TEXT.replace(" ", " " + odd + " ", 1),
                         MILL_TEXT + "\n" + odd, odd, MILL_TEXT.replace("down", "do" + odd + "wn", 1), MILL_TEXT.replace(" 2", odd + "2")]:
                self.check_refused(text)

    def test_other_figures_signs_and_letters(self):
        for odd in ODD_FIGURES:
            for text in ["places a\nmove a " + odd + " +0 a", "places a\nmove a 0 +" + odd + " a", "places a\nmove a 4 -" + odd + " a",
                         "places a\nmove a 0 " + odd + " a", "places a" + odd]:
                self.check_refused(text)
        for odd in ODD_SIGNS:
            self.check_refused("places a\nmove a 4 " + odd + "3 a")
        for odd in ODD_LETTERS:
            self.check_refused("places " + odd)
            self.check_refused("places a\nmove " + odd + " 0 +0 a")
            self.check_refused("place" + odd + " a")
            self.check_refused("places a\nmo" + odd + "e a 0 +0 a")

    def test_texts_bent_in_one_sign(self):
        told = {True: 0, False: 0}
        signs = list(" \nabmpsudx0123489+-~") + ["\t", "\r", "\xa0", "\u0663", "\u2028", "A"]
        for text in [MILL_TEXT, "places a b\nmove a 3 -2 b\nmove b 0 +0 a"]:
            for at in range(len(text) + 1):
                bent = [text[:at] + sign + text[at:] for sign in signs] + [text[:at] + text[at + 1:]]
                bent += [text[:at] + sign + text[at + 1:] for sign in signs if at < len(text)]
                for one in bent:
                    told[self.check_plainly(one)] += 1
        self.assertGreater(min(told.values()), 150)

    def test_drawn_texts(self):
        rng = random.Random(72)
        parts = ["places", "move", "a", "b", "abcdefgh", "0", "4", "8", "9", "+0", "-0", "+4", "-4", "+5", "", "\n", "\nmove", "\nmove a", "\u00a0"]
        told = {True: 0, False: 0}
        for _ in range(3000):
            text = "places a b"
            for _ in range(rng.randint(0, 3)):
                move = ["\nmove", rng.choice("ab"), rng.choice("0348"), rng.choice(["+0", "+3", "-3", "-4"]), rng.choice("ab")]
                if rng.random() < 0.15:
                    move[rng.randrange(5)] = rng.choice(parts)
                text += " ".join(move)
            if rng.random() < 0.1:
                text = " ".join(rng.choice(parts) for _ in range(rng.randint(0, 9)))
            told[self.check_plainly(text)] += 1
        self.assertGreater(min(told.values()), 300)

    def test_values_of_all_kinds(self):
        for value in some_values() + [clock(), MILL_TEXT.split("\n"), (MILL_TEXT,), b"places a", {MILL_TEXT: 1}]:
            self.check_refused(value)

    def test_long_texts(self):
        began = time.perf_counter()
        for text in ["places a" + " " * 2990, "\n" * 2990 + "places a", " \n" * 1490 + "places a", "places a" + "\n " * 1490]:
            self.assertEqual(read_program(text), Program(["a"], []))
        for text in ["a" * 3000, "places " + "a " * 1490, "places a" + "\nmove a 0 +0 a" * 200, "places a\nmove a " + "1" * 2900 + " +0 a",
                     "move " * 600, "places " + "a" * 2900, "places a\nmove a 0 +" + "1" * 2900 + " a", "\u0663" * 3000]:
            self.check_refused(text)
        self.assertLess(time.perf_counter() - began, 3)

    def test_what_is_read_is_a_program_like_any_other(self):
        program = read_program(MILL_TEXT)
        self.assertEqual(program, mill())
        self.assertEqual(mill(), program)
        program.moves().clear()
        self.assertEqual(read_program(MILL_TEXT), program)
        live = Live(program)
        live.drop(0)
        self.assertEqual(text_of(live.shown()), "places up down\nmove up 2 -2 down\nmove down 4 -4 down")
        self.assertEqual(text_of(program), MILL_TEXT)


if __name__ == "__main__":
    unittest.main()
