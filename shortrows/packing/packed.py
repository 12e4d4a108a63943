"""Programs packed as bits by a book."""

from shortrows.codes.codes import code_of
from shortrows.codes.lengths import least_lengths
from shortrows.machine.rows import BOXES, SHAPES, goal_of
from shortrows.packing.widths import HEADS, WIDTHS, distance_of, least_widths, row_starts

# Where a book has the lengths of words, classes and boxes, and for how many of each.
OF_WORDS = 0
OF_CLASSES = 1
OF_BOXES = 2
HOW_MANY = (9, 17, 8)

LONGEST = 12


def book_of(program, counts):
    sums = [[0] * many for many in HOW_MANY]
    for row, count in zip(program, counts):
        for which, thing in coded_things(row):
            sums[which][thing] = sums[which][thing] + count
    return tuple([least_lengths(tuple(counted), LONGEST) for counted in sums])


# What of a row is written by the book's codes, in the row's order: of which code, and the thing's number there.
def coded_things(row):
    things = [(OF_WORDS, list(SHAPES).index(row[0]))]
    for kind, part in zip(SHAPES[row[0]], row[1:]):
        if kind == "box":
            things.append((OF_BOXES, BOXES.index(part)))
        elif kind == "number":
            things.append((OF_CLASSES, part.bit_length()))
    return things


def codes_of(book):
    return [code_of(lengths) for lengths in book]


def pack_rows(program, book):
    codes = codes_of(book)
    firsts = [bits_ahead_of_goal(row, codes) for row in program]
    sizes = [len(first) for first in firsts]
    goals = [goal_of(row) for row in program]
    widths = least_widths(sizes, goals)
    starts = row_starts(sizes, widths)
    bits = []
    for row, first in enumerate(firsts):
        bits.append(first)
        if goals[row] is not None:
            bits.append(jump_written(widths[row], distance_of(starts, goals, row)))
    return ("".join(bits), tuple(starts[:-1]))


# A goal stands last in each row that has one, and so does a number, whose figures come behind its class.
def bits_ahead_of_goal(row, codes):
    bits = "".join([codes[which][thing] for which, thing in coded_things(row)])
    return bits + figures_behind_first(row[-1]) if row[0] == "put" else bits


def figures_behind_first(number):
    return last_figures(number, number.bit_length() - 1)


def jump_written(width, distance):
    # A distance below 0 needs nothing added first: halved and rounded down, it has the same last figures.
    return HEADS[width] + last_figures(distance, WIDTHS[width])


def last_figures(number, many):
    figures = ""
    left = number
    for turn in range(many):
        figures = str(left % 2) + figures
        left = left // 2
    return figures
