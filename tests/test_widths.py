import itertools
import random
import time
import unittest

from shortrows.errors import NoReach, ShortError
from shortrows.packing.widths import are_good, least_widths, widths_paper, widths_shown

PARTS = {None: 0, 0: 5, 1: 10, 2: 18}
BITS = (4, 8, 16)


# How far a jump goes, row by row of those between.
def distance(sizes, goals, widths, row):
    def bits(rows):
        return sum([sizes[between] + PARTS[widths[between]] for between in rows])

    goal = goals[row]
    return bits(range(row + 1, goal)) if goal > row else -bits(range(goal, row + 1))


def row_fits(sizes, goals, widths, row):
    half = 2 ** (BITS[widths[row]] - 1)
    return -half <= distance(sizes, goals, widths, row) <= half - 1


def good(sizes, goals, widths):
    return all([goal is None or row_fits(sizes, goals, widths, row) for row, goal in enumerate(goals)])


def all_choices(goals):
    return itertools.product(*[(None,) if goal is None else (0, 1, 2) for goal in goals])


# The rule of [16], word for word.
def shown(sizes, goals, widths, paper):
    raised = [None if goal is None else 0 for goal in goals]
    for row in paper:
        if row not in range(len(goals)) or goals[row] is None or raised[row] == 2:
            return False
        if row_fits(sizes, goals, raised, row):
            return False
        raised[row] += 1
    return tuple(raised) == widths and good(sizes, goals, raised)


def by_chance(chance, rows, goers=0.6):
    sizes = tuple([chance.choice((0, 1, 2, 3, 5, 7, 8, 60, 110, 115, 120, 127)) for row in range(rows)])
    goals = tuple([chance.randint(0, rows) if chance.random() < goers else None for row in range(rows)])
    return sizes, goals


class WidthsTest(unittest.TestCase):
    def assert_least(self, sizes, goals, widths):
        told = least_widths(sizes, goals)
        self.assertEqual(told, widths, (sizes, goals))
        self.assertIs(type(told), tuple)
        self.assertIs(are_good(sizes, goals, widths), True, (sizes, goals, widths))
        paper = widths_paper(sizes, goals)
        self.assertIs(type(paper), tuple)
        self.assertTrue(shown(sizes, goals, widths, paper), (sizes, goals, paper))
        self.assertIs(widths_shown(sizes, goals, widths, paper), True, (sizes, goals, paper))

    def assert_no_reach(self, sizes, goals):
        with self.assertRaises(NoReach):
            least_widths(sizes, goals)
        with self.assertRaises(NoReach):
            widths_paper(sizes, goals)

    def assert_good(self, sizes, goals, widths, wanted):
        self.assertIs(are_good(sizes, goals, widths), wanted, (sizes, goals, widths))

    def test_no_rows(self):
        self.assert_least((), (), ())
        self.assertEqual(widths_paper((), ()), ())
        self.assert_good((), (), (), True)
        self.assertIs(widths_shown((), (), (), (0,)), False)

    def test_no_row_that_goes(self):
        self.assert_least((3,), (None,), (None,))
        self.assert_least((0, 10 ** 6, 7), (None, None, None), (None, None, None))
        self.assertEqual(widths_paper((0, 10 ** 6, 7), (None, None, None)), ())

    def test_a_jump_to_itself(self):
        # It goes back over its own row: size and own part.
        for size, width in ((0, 0), (3, 0), (4, 1), (118, 1), (119, 2), (32750, 2)):
            self.assert_least((size,), (0,), (width,))
            self.assert_least((9, size, 9), (None, 1, None), (None, width, None))
        self.assert_no_reach((32751,), (0,))

    def test_a_jump_to_its_own_next_row(self):
        for size in (0, 8, 200, 10 ** 6):
            self.assert_least((size, 10 ** 6), (1, None), (0, None))
            self.assert_least((size,), (1,), (0,))

    def test_a_jump_behind_all(self):
        for size, width in ((0, 0), (7, 0), (8, 1), (127, 1), (128, 2), (32767, 2)):
            self.assert_least((10 ** 6, size), (2, None), (width, None))
            self.assert_least((4, 0, size, 0), (4, None, None, None), (width, None, None, None))
        self.assert_no_reach((3, 32768), (2, None))

    def test_a_jump_forwards(self):
        for size, width in ((0, 0), (7, 0), (8, 1), (127, 1), (128, 2), (32767, 2)):
            self.assert_least((10 ** 6, size, 10 ** 6), (2, None, None), (width, None, None))
        self.assert_no_reach((0, 32768, 0), (2, None, None))

    def test_a_jump_back_to_row_0(self):
        for size, width in ((0, 0), (3, 0), (4, 1), (118, 1), (119, 2), (32750, 2)):
            self.assert_least((size, 0, 10 ** 6), (None, 0, None), (None, width, None))
        self.assert_no_reach((32751, 0), (None, 0))

    def test_distances_just_at_and_beyond(self):
        # Width by width: back the least distance and one below, forwards the greatest and one above.
        for width, bits in enumerate(BITS):
            half = 2 ** (bits - 1)
            back = half - PARTS[width]
            self.assert_good((back, 0), (None, 0), (None, width), True)
            self.assert_good((back + 1, 0), (None, 0), (None, width), False)
            self.assert_good((back - 1, 1), (None, 0), (None, width), True)
            self.assert_good((back - 1, 2), (None, 0), (None, width), False)
            self.assert_good((0, half - 1), (2, None), (width, None), True)
            self.assert_good((0, half), (2, None), (width, None), False)
            for wider in range(width + 1, 3):
                self.assert_good((back + 1, 0), (None, 0), (None, wider), True)
                self.assert_good((0, half), (2, None), (wider, None), True)

    def test_a_greater_width_makes_another_one_not_fit(self):
        # Row 0 goes over row 1: with 5 bits of its jump it fits, with 10 not.
        self.assert_least((0, 2, 7), (2, 3, None), (0, 0, None))
        self.assert_least((0, 2, 8), (2, 3, None), (1, 1, None))
        self.assertEqual(sorted(widths_paper((0, 2, 8), (2, 3, None))), [0, 1])
        self.assertEqual(widths_paper((0, 2, 8), (2, 3, None))[0], 1)

    def test_a_chain_of_such(self):
        rows = 20
        sizes = tuple([2] * (rows - 1) + [8, 8])
        goals = tuple([row + 2 for row in range(rows)] + [None])
        self.assert_least(sizes, goals, (1,) * rows + (None,))
        self.assert_least(sizes[:-2] + (2, 7), goals, (0,) * rows + (None,))

    def test_two_that_go_over_one_another(self):
        # Row 2 has to be wider by what it goes over, and then row 0, which goes over it.
        self.assert_least((0, 0, 2), (3, None, 0), (1, None, 1))
        self.assertEqual(widths_paper((0, 0, 2), (3, None, 0)), (2, 0))
        self.assert_least((1, 1, 1), (2, None, 0), (0, None, 1))
        self.assert_least((0, 0), (2, 1), (0, 0))

    def test_where_16_bits_do_not_reach(self):
        self.assert_no_reach((10 ** 6,), (0,))
        self.assert_no_reach((0, 10 ** 6), (2, None))
        self.assert_no_reach((0, 10 ** 6, 0), (None, None, 0))
        # It reaches as long as the one that it goes over is narrower.
        self.assert_least((0, 32757, 127), (2, 3, None), (2, 1, None))
        self.assert_no_reach((0, 32757, 128), (2, 3, None))
        self.assert_least((0, 32749, 128), (2, 3, None), (2, 2, None))
        self.assert_no_reach((0, 32750, 128), (2, 3, None))

    def test_good_choices_of_none_that_reaches(self):
        for widths in itertools.product((0, 1, 2), repeat=2):
            self.assert_good((0, 32750, 128), (2, 3, None), widths + (None,), False)

    def test_the_refusal_is_a_short_error(self):
        for asked in (least_widths, widths_paper):
            with self.assertRaises(ShortError):
                asked((10 ** 6,), (0,))

    def test_where_another_good_choice_stands(self):
        sizes, goals = (1, 1, 1), (2, None, 1)
        self.assert_least(sizes, goals, (0, None, 0))
        for widths in all_choices(goals):
            self.assert_good(sizes, goals, widths, True)
            self.assertIs(widths_shown(sizes, goals, widths, ()), widths == (0, None, 0))
        # Of good ones some are not wider than the least everywhere in the same rows.
        self.assert_least((0, 2, 8), (2, 3, None), (1, 1, None))
        for widths, wanted in (((0, 0, None), False), ((0, 1, None), False), ((1, 0, None), False),
                               ((0, 2, None), False), ((2, 1, None), True), ((1, 2, None), True)):
            self.assert_good((0, 2, 8), (2, 3, None), widths, wanted)
            self.assertIs(widths_shown((0, 2, 8), (2, 3, None), widths, (1, 0)), False)

    def test_against_going_through_all_choices(self):
        chance = random.Random(53)
        refused = 0
        for number in range(500):
            sizes, goals = by_chance(chance, chance.randint(1, 5))
            if chance.random() < 0.3:
                sizes = tuple([size + chance.choice((0, 0, 16200, 32640)) for size in sizes])
            found = []
            for widths in all_choices(goals):
                wanted = good(sizes, goals, widths)
                self.assert_good(sizes, goals, widths, wanted)
                if wanted:
                    found.append(widths)
            if found:
                least = tuple([None if widths[0] is None else min(widths) for widths in zip(*found)])
                self.assertIn(least, found)
                self.assert_least(sizes, goals, least)
            else:
                refused += 1
                self.assert_no_reach(sizes, goals)
        self.assertGreater(refused, 20)
        self.assertLess(refused, 400)

    def test_many_rows(self):
        chance = random.Random(59)
        for number in range(30):
            sizes, goals = by_chance(chance, 60)
            paper = widths_paper(sizes, goals)
            widths = least_widths(sizes, goals)
            self.assert_least(sizes, goals, widths)
            self.assertEqual(sum([width for width in widths if width is not None]), len(paper))

    def test_quickly(self):
        begun = time.perf_counter()
        rows = 60
        sizes = (8,) + (2,) * (rows - 1)
        for goals in (tuple([max(row - 2, 0) for row in range(rows)]), (0,) * rows, (rows,) * rows,
                      tuple([rows - row for row in range(rows)])):
            self.assert_least(sizes, goals, least_widths(sizes, goals))
        self.assert_no_reach((0,) * (rows - 1) + (10 ** 6,), (rows,) * (rows - 1) + (None,))
        self.assertLess(time.perf_counter() - begun, 10)

    def test_the_same_asked_again(self):
        sizes, goals = (9, 0, 4, 130), (2, 4, 0, None)
        widths, paper = least_widths(sizes, goals), widths_paper(sizes, goals)
        least_widths((5, 5), (2, 0))
        for turn in range(2):
            self.assertEqual(least_widths(sizes, goals), widths)
            self.assertEqual(widths_paper(sizes, goals), paper)
            self.assertIs(widths_shown(sizes, goals, widths, paper), True)
        self.assertEqual((sizes, goals), ((9, 0, 4, 130), (2, 4, 0, None)))

    def test_by_the_names_of_the_arguments(self):
        self.assertEqual(least_widths(sizes=(1,), goals=(0,)), (0,))
        self.assertEqual(widths_paper(sizes=(1,), goals=(0,)), ())
        self.assertIs(widths_shown(sizes=(1,), goals=(0,), widths=(0,), paper=()), True)
        self.assertIs(are_good(sizes=(1,), goals=(0,), widths=(0,)), True)


class PaperTest(unittest.TestCase):
    # Row 0 goes over row 1 and needs 16 bits; row 2 goes nowhere; row 3 goes over row 4 and needs 8.
    sizes = (0, 128, 0, 0, 9)
    goals = (2, None, None, 5, None)
    widths = (2, None, None, 1, None)

    def assert_paper(self, paper, wanted, widths=None):
        told = widths_shown(self.sizes, self.goals, self.widths if widths is None else widths, paper)
        self.assertIs(told, wanted, paper)

    def test_the_own_paper(self):
        self.assertEqual(least_widths(self.sizes, self.goals), self.widths)
        self.assert_paper(widths_paper(self.sizes, self.goals), True)

    def test_rows_in_another_order(self):
        for paper in ((0, 0, 3), (0, 3, 0), (3, 0, 0)):
            self.assert_paper(paper, True)

    def test_a_row_once_too_often(self):
        self.assert_paper((0, 0, 3, 3), False)
        self.assert_paper((0, 0, 3, 3), False, (2, None, None, 2, None))
        self.assert_paper((3, 3, 0, 0), False, (2, None, None, 2, None))
        self.assert_paper((0, 0, 0, 3), False)
        # Its width is 2, and it does not fit then either.
        self.assertIs(widths_shown((0, 10 ** 6), (2, None), (2, None), (0, 0)), False)
        for width in (2, 3):
            self.assertIs(widths_shown((0, 10 ** 6), (2, None), (width, None), (0, 0, 0)), False)

    def test_a_row_too_early(self):
        sizes, goals = (0, 2, 8), (2, 3, None)
        self.assertIs(widths_shown(sizes, goals, (1, 1, None), (1, 0)), True)
        self.assertIs(widths_shown(sizes, goals, (1, 1, None), (0, 1)), False)

    def test_a_row_that_goes_nowhere(self):
        for row in (1, 2, 4):
            for paper in ((row, 0, 0, 3), (0, 0, 3, row), (row,)):
                self.assert_paper(paper, False)

    def test_a_number_of_no_row(self):
        for number in (5, 6, 1000, 10 ** 20, -1, -2, -5, -6, -1000):
            for paper in ((number, 0, 0, 3), (0, 0, 3, number), (number,)):
                self.assert_paper(paper, False)
        # From behind these would be rows 0 and 3.
        self.assert_paper((-5, 0, 3), False)
        self.assert_paper((0, 0, -2), False)
        # And this one the last row, which has to rise.
        self.assertIs(widths_shown((200, 100, 0), (None, None, 1), (None, None, 1), (2,)), True)
        self.assertIs(widths_shown((200, 100, 0), (None, None, 1), (None, None, 1), (-1,)), False)

    def test_a_paper_that_ends_too_early(self):
        for paper in ((), (0,), (3,), (0, 0), (0, 3)):
            self.assert_paper(paper, False)
            came_to = (paper.count(0), None, None, paper.count(3), None)
            self.assert_paper(paper, False, came_to)

    def test_widths_other_than_what_it_comes_to(self):
        for widths in all_choices(self.goals):
            self.assert_paper((0, 0, 3), widths == self.widths, widths)

    def test_any_paper_against_the_rule(self):
        for many in range(5):
            for paper in itertools.product(range(-2, 6), repeat=many):
                self.assert_paper(paper, shown(self.sizes, self.goals, self.widths, paper))

    def test_papers_by_chance_against_the_rule(self):
        chance = random.Random(61)
        seen = {True: 0, False: 0}
        for number in range(1500):
            sizes, goals = by_chance(chance, chance.randint(2, 8))
            paper = list(widths_paper(sizes, goals))
            chance.shuffle(paper)
            if chance.random() < 0.2:
                paper.insert(chance.randint(0, len(paper)), chance.randint(-1, len(sizes)))
            if chance.random() < 0.1:
                paper = paper[:-1]
            if paper and chance.random() < 0.2:
                paper[chance.randrange(len(paper))] -= len(sizes)
            widths = least_widths(sizes, goals)
            wanted = shown(sizes, goals, widths, tuple(paper))
            seen[wanted] += 1
            self.assertIs(widths_shown(sizes, goals, widths, tuple(paper)), wanted, (sizes, goals, paper))
        self.assertGreater(min(seen.values()), 300)


if __name__ == "__main__":
    unittest.main()
