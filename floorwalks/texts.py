"""Texts of programs: a line of places, and a line for each move."""

from floorwalks.checks import check_program
from floorwalks.errors import InvalidItem, InvalidList, InvalidText
from floorwalks.programs import Program

PLACES = "places"
MOVE = "move"
LEASTS = "012345678"
SIGNS = "+-"
AMOUNTS = "01234"


def text_of(program):
    """Return the text of a program."""
    check_program(program)
    lines = [[PLACES] + program.places()]
    for place, least, change, other in program.moves():
        lines.append([MOVE, place, str(least), f"{change:+d}", other])
    return "\n".join([" ".join(parts) for parts in lines])


def read_program(text):
    """Return the program of a text."""
    if not isinstance(text, str):
        raise InvalidText(text)
    lines = _lines_of(text)
    if not _are_lines_of_a_program(lines):
        raise InvalidText(text)
    try:
        return _program_of(lines)
    except (InvalidList, InvalidItem):
        raise InvalidText(text) from None


def _lines_of(text):
    """Return the list of the lines with parts, each a list of its parts."""
    # Not split(): no other sign than the line end and the blank parts anything.
    lines = [[part for part in line.split(" ") if part] for line in text.split("\n")]
    return [parts for parts in lines if parts]


def _are_lines_of_a_program(lines):
    if not lines or lines[0][0] != PLACES:
        return False
    return all([_is_line_of_a_move(parts) for parts in lines[1:]])


def _is_line_of_a_move(parts):
    return len(parts) == 5 and parts[0] == MOVE and _is_least(parts[2]) and _is_change(parts[3])


def _is_least(part):
    return len(part) == 1 and part in LEASTS


def _is_change(part):
    return len(part) == 2 and part[0] in SIGNS and part[1] in AMOUNTS and part != "-0"


def _program_of(lines):
    moves = [(place, int(least), int(change), other) for _, place, least, change, other in lines[1:]]
    return Program(lines[0][1:], moves)
