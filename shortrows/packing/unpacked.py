"""Bits read back as rows by a book."""

from shortrows.codes.codes import thing_at
from shortrows.errors import NoBits
from shortrows.machine.rows import BOXES, SHAPES, goal_of, with_goal
from shortrows.packing.packed import OF_BOXES, OF_CLASSES, OF_WORDS, codes_of
from shortrows.packing.widths import HALVES, HEADS, WIDTHS


def read_rows(bits, book):
    codes = codes_of(book)
    rows = []
    # One more than rows: at last the place behind all.
    starts = [0]
    while starts[-1] < len(bits):
        found = row_at(codes, bits, starts[-1])
        if found is None:
            raise NoBits(starts[-1])
        rows.append(found[0])
        starts.append(found[1])
    numbers = dict([(start, number) for number, start in enumerate(starts)])
    return tuple([goal_numbered(row, start, numbers) for row, start in zip(rows, starts)])


def goal_numbered(row, start, numbers):
    goal = goal_of(row)
    if goal is None:
        return row
    if goal not in numbers:
        raise NoBits(start)
    return with_goal(row, numbers[goal])


# What is found at a place is told here with the place behind it, and None where it cannot be read to its end. The goal
# of a row found so is the place of the bit that it goes to.
def row_at(codes, bits, place):
    # A place below 0 would be taken as one from the end on.
    if place < 0:
        return None
    found = coded_at(codes[OF_WORDS], bits, place)
    if found is None:
        return None
    word = list(SHAPES)[found[0]]
    row = [word]
    behind = found[1]
    for kind in SHAPES[word]:
        part = part_at(kind, codes, bits, behind)
        if part is None:
            return None
        row.append(part[0])
        behind = part[1]
    return (tuple(row), behind)


def coded_at(code, bits, place):
    thing = thing_at(code, bits, place)
    return None if thing is None else (thing, place + len(code[thing]))


def part_at(kind, codes, bits, place):
    if kind == "number":
        return number_at(codes[OF_CLASSES], bits, place)
    if kind == "goal":
        return goal_at(bits, place)
    found = coded_at(codes[OF_BOXES], bits, place)
    return None if found is None else (BOXES[found[0]], found[1])


def number_at(code, bits, place):
    found = coded_at(code, bits, place)
    # 0 alone has no first figure that could be left out.
    if found is None or found[0] == 0:
        return found
    behind = found[1] + found[0] - 1
    if behind > len(bits):
        return None
    return (int("1" + bits[found[1]:behind], 2), behind)


def goal_at(bits, place):
    found = coded_at(HEADS, bits, place)
    if found is None:
        return None
    width = found[0]
    behind = found[1] + WIDTHS[width]
    if behind > len(bits):
        return None
    distance = int(bits[found[1]:behind], 2)
    if distance >= HALVES[width]:
        distance = distance - 2 * HALVES[width]
    # A goal stands last in its row, so what is behind it is behind the row.
    return (behind + distance, behind)
