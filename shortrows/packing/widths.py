"""Widths of jumps, each no wider than it must be."""

from shortrows.errors import NoReach

# By a width's number: what is written ahead, in how many bits the distance is written, and half of all that these tell.
HEADS = ("0", "10", "11")
WIDTHS = (4, 8, 16)
HALVES = (8, 128, 32768)

WIDEST = 2


def least_widths(sizes, goals):
    return raised_till_good(sizes, goals)[0]


def widths_paper(sizes, goals):
    return raised_till_good(sizes, goals)[1]


# Wider jumps bring no goal nearer. So what does not fit now fits in no choice that is nowhere less, unless it is wider
# itself; and no good choice is less anywhere than what is come to here.
def raised_till_good(sizes, goals):
    widths = narrowest(goals)
    paper = []
    row = first_too_narrow(sizes, goals, widths)
    while row is not None:
        if widths[row] == WIDEST:
            raise NoReach(f"row {row} does not reach its goal")
        widths[row] = widths[row] + 1
        paper.append(row)
        row = first_too_narrow(sizes, goals, widths)
    return (tuple(widths), tuple(paper))


def widths_shown(sizes, goals, widths, paper):
    raised = narrowest(goals)
    for row in paper:
        if not has_to_rise(sizes, goals, raised, row):
            return False
        raised[row] = raised[row] + 1
    return tuple(raised) == widths and are_good(sizes, goals, raised)


def are_good(sizes, goals, widths):
    return first_too_narrow(sizes, goals, widths) is None


def narrowest(goals):
    return [None if goal is None else 0 for goal in goals]


def has_to_rise(sizes, goals, widths, row):
    if row < 0 or row >= len(goals) or goals[row] is None or widths[row] == WIDEST:
        return False
    return not fits(row_starts(sizes, widths), goals, widths, row)


def first_too_narrow(sizes, goals, widths):
    starts = row_starts(sizes, widths)
    for row, goal in enumerate(goals):
        if goal is not None and not fits(starts, goals, widths, row):
            return row
    return None


def fits(starts, goals, widths, row):
    half = HALVES[widths[row]]
    return -half <= distance_of(starts, goals, row) < half


def distance_of(starts, goals, row):
    return starts[goals[row]] - starts[row + 1]


# One more than rows: at last the place behind all.
def row_starts(sizes, widths):
    starts = [0]
    for size, width in zip(sizes, widths):
        starts.append(starts[-1] + size + own_part(width))
    return starts


def own_part(width):
    return 0 if width is None else len(HEADS[width]) + WIDTHS[width]
