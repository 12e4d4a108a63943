"""Programs as texts, a row a line."""

from shortrows.errors import NoProgram
from shortrows.machine.rows import BOXES, SHAPES, WHOLE

FIGURES = "0123456789"


def read_program(text):
    lines = text.split("\n")
    rows = []
    for number, line in enumerate(lines):
        row = read_row(line, len(lines))
        if row is None:
            raise NoProgram(number)
        rows.append(row)
    return tuple(rows)


def program_shown(program):
    return "\n".join([row_shown(row) for row in program])


def row_shown(row):
    return " ".join([str(part) for part in row])


def read_row(line, greatest_goal):
    # Parted at each single blank, one too many leaves a part without signs, which is no part of a row.
    parts = line.split(" ")
    shape = SHAPES.get(parts[0])
    if shape is None or len(parts) != 1 + len(shape):
        return None
    values = [read_part(kind, part, greatest_goal) for kind, part in zip(shape, parts[1:])]
    if None in values:
        return None
    return tuple(parts[:1] + values)


def read_part(kind, part, greatest_goal):
    if kind == "box":
        return part if part in BOXES else None
    return read_number(part, WHOLE - 1 if kind == "number" else greatest_goal)


def read_number(text, greatest):
    # With no nought ahead a longer one is greater; so very long texts, which int refuses, never come to it.
    if not is_number(text) or len(text) > len(str(greatest)):
        return None
    number = int(text)
    return number if number <= greatest else None


def is_number(text):
    # Not isdigit, which lets by more signs than the ten figures.
    if text == "" or not all([sign in FIGURES for sign in text]):
        return False
    return text == "0" or not text.startswith("0")
