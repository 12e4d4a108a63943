import itertools
import random
import time
import unittest

from shortrows.codes.lengths import least_lengths
from shortrows.codes.papers import paper_of, paper_shown
from test_lengths import fits, least_without_bound


def cost(counts, lengths):
    return sum([count * length for count, length in zip(counts, lengths)])


def least_cost(counts):
    return counts[0] if len(counts) == 1 else least_without_bound(counts)


# The rule of [10], word for word.
def shown(counts, lengths, paper):
    standing = list(range(len(counts)))
    weights = list(counts)
    for one, other in paper:
        if one not in standing or other not in standing or one == other:
            return False
        rest = [number for number in standing if number not in (one, other)]
        for number in (one, other):
            if any([weights[number] > weights[beside] for beside in rest]):
                return False
        standing = rest + [len(weights)]
        weights.append(weights[one] + weights[other])
    if len(standing) != 1 or not fits(lengths):
        return False
    if len(counts) == 1:
        return lengths == (1,)
    return cost(counts, lengths) == sum(weights[len(counts):])


# A paper by any order of the same weights, pairs turned round as chance has it, and the lengths of its tree.
def paper_by_chance(counts, chance):
    standing = [(count, thing, [thing]) for thing, count in enumerate(counts)]
    lengths, paper = [0] * len(counts), []
    while len(standing) > 1:
        chance.shuffle(standing)
        standing.sort(key=lambda item: item[0])
        pair = standing[:2]
        chance.shuffle(pair)
        for thing in pair[0][2] + pair[1][2]:
            lengths[thing] += 1
        paper.append((pair[0][1], pair[1][1]))
        both = (pair[0][0] + pair[1][0], len(counts) + len(paper) - 1, pair[0][2] + pair[1][2])
        standing = standing[2:] + [both]
    return (tuple(lengths) if paper else (1,)), tuple(paper)


class PapersTest(unittest.TestCase):
    def assert_told(self, counts):
        told = paper_of(counts)
        self.assertIs(type(told), tuple)
        lengths, paper = told
        self.assertIs(type(lengths), tuple)
        self.assertIs(type(paper), tuple)
        self.assertEqual(len(lengths), len(counts))
        for pair in paper:
            self.assertIs(type(pair), tuple)
            self.assertEqual([type(number) for number in pair], [int, int])
        self.assertTrue(all([type(length) is int and length >= 1 for length in lengths]))
        self.assertTrue(shown(counts, lengths, paper), (counts, lengths, paper))
        self.assertEqual(cost(counts, lengths), least_cost(counts))
        self.assert_let_by(counts, lengths, paper)

    def assert_let_by(self, counts, lengths, paper):
        self.assertIs(paper_shown(counts, lengths, paper), True, (counts, lengths, paper))

    def assert_not(self, counts, lengths, paper):
        self.assertIs(paper_shown(counts, lengths, paper), False, (counts, lengths, paper))

    def test_ordinary(self):
        self.assertEqual(paper_of((5, 1, 2)), ((1, 2, 2), ((1, 2), (3, 0))))
        self.assert_let_by((5, 1, 2), (1, 2, 2), ((1, 2), (0, 3)))
        self.assert_let_by((5, 1, 2), (1, 2, 2), ((2, 1), (3, 0)))
        for counts in ((3, 9), (1, 2, 4, 8), (1, 1, 2, 3, 5, 8), (7, 7, 7, 1)):
            self.assert_told(counts)

    def test_one_thing_alone(self):
        for count in (0, 1, 10 ** 12 - 1):
            self.assertEqual(paper_of((count,)), ((1,), ()))
            self.assert_let_by((count,), (1,), ())
            for length in (2, 3, 20):
                self.assert_not((count,), (length,), ())
            for pair in ((0, 0), (0, 1), (1, 0), (1, 1), (-1, 0), (0, -1)):
                self.assert_not((count,), (1,), (pair,))

    def test_counts_of_0(self):
        for things in range(1, 21):
            self.assert_told((0,) * things)
            self.assert_told((0,) * (things - 1) + (1,))
        self.assert_let_by((0, 0), (1, 1), ((0, 1),))
        self.assert_let_by((0, 0), (7, 20), ((0, 1),))
        self.assert_let_by((0, 0, 5), (20, 20, 1), ((0, 1), (2, 3)))
        self.assert_not((0, 0, 5), (2, 1, 2), ((0, 1), (2, 3)))
        self.assert_not((0, 0), (1, 1), ())
        self.assert_not((0, 0, 0), (1, 1, 1), ((0, 1), (2, 3)))

    def test_counts_that_are_alike(self):
        for things in range(2, 21):
            self.assert_told((4,) * things)
        for pair in itertools.permutations(range(4), 2):
            rest = tuple(set(range(4)) - set(pair))
            self.assert_let_by((4, 4, 4, 4), (2, 2, 2, 2), (pair, rest, (4, 5)))

    def test_papers_by_another_order(self):
        # The made one of weight 2 may be put together ahead of the thing of weight 2, or behind it.
        counts = (1, 1, 2, 2)
        self.assert_let_by(counts, (2, 2, 2, 2), ((0, 1), (2, 3), (4, 5)))
        self.assert_let_by(counts, (3, 3, 2, 1), ((0, 1), (4, 2), (3, 5)))
        self.assert_let_by(counts, (3, 3, 1, 2), ((1, 0), (3, 4), (5, 2)))
        # Lengths need not be those of the paper's own tree.
        self.assert_let_by(counts, (3, 3, 2, 1), ((0, 1), (2, 3), (4, 5)))
        self.assert_let_by(counts, (2, 2, 2, 2), ((0, 1), (4, 2), (3, 5)))
        self.assert_let_by(counts, (3, 3, 1, 2), ((0, 1), (4, 2), (3, 5)))

    def test_papers_by_chance(self):
        chance = random.Random(29)
        for number in range(300):
            most = chance.choice((0, 1, 2, 5, 100, 10 ** 12 - 1))
            counts = tuple([chance.randint(0, most) for thing in range(chance.randint(1, 20))])
            self.assert_told(counts)
            lengths, paper = paper_by_chance(counts, chance)
            self.assert_let_by(counts, lengths, paper)
            self.assert_let_by(counts, paper_of(counts)[0], paper)
            self.assert_let_by(counts, lengths, paper_of(counts)[1])
            self.assert_let_by(counts, least_lengths(counts, 40), paper)

    def test_a_pair_of_such_as_weigh_more(self):
        self.assert_not((5, 1, 2), (1, 2, 2), ((0, 1), (2, 3)))
        self.assert_not((5, 1, 2), (1, 2, 2), ((0, 2), (1, 3)))
        # Here the sum would be the right one.
        self.assert_not((1, 2, 3, 3), (2, 2, 2, 2), ((0, 2), (1, 3), (4, 5)))
        self.assert_let_by((1, 2, 3, 3), (2, 2, 2, 2), ((0, 1), (2, 3), (4, 5)))
        # A made one may be the heavier one, too.
        self.assert_not((2, 2, 3, 3), (2, 2, 2, 2), ((0, 1), (4, 2), (3, 5)))
        self.assert_not((2, 2, 3, 3), (2, 2, 2, 2), ((0, 1), (2, 4), (5, 3)))

    def test_lengths_and_paper_of_a_worse_tree(self):
        # All but the weights is in order: lengths of the tree, and their sum.
        self.assert_not((5, 1, 2), (2, 2, 1), ((0, 1), (2, 3)))
        self.assert_not((1, 2, 4, 8), (2, 2, 2, 2), ((0, 1), (2, 3), (4, 5)))
        self.assert_not((1, 1, 1, 1), (3, 3, 2, 1), ((0, 1), (4, 2), (5, 3)))

    def test_numbers_that_do_not_stand(self):
        counts, lengths = (1, 1, 1, 1), (2, 2, 2, 2)
        self.assert_let_by(counts, lengths, ((0, 1), (2, 3), (4, 5)))
        # Those that stand no more.
        self.assert_not(counts, lengths, ((0, 1), (0, 2), (3, 5)))
        self.assert_not(counts, lengths, ((0, 1), (2, 1), (4, 5)))
        self.assert_not(counts, lengths, ((0, 1), (2, 3), (4, 0)))
        self.assert_not(counts, lengths, ((0, 1), (0, 1), (4, 5)))
        # Those that there are not yet.
        self.assert_not(counts, lengths, ((0, 4), (2, 3), (4, 5)))
        self.assert_not(counts, lengths, ((0, 1), (2, 5), (4, 5)))
        self.assert_not(counts, lengths, ((0, 1), (2, 3), (4, 6)))
        self.assert_not(counts, lengths, ((0, 1), (2, 3), (4, 10 ** 20)))
        # Those below 0.
        self.assert_not(counts, lengths, ((-4, 1), (2, 3), (4, 5)))
        self.assert_not(counts, lengths, ((0, 1), (2, -1), (4, 5)))
        self.assert_not(counts, lengths, ((0, 1), (2, 3), (4, -1)))
        self.assert_not(counts, lengths, ((0, 1), (2, 3), (-2, -1)))

    def test_twice_the_same(self):
        self.assert_not((1, 1), (1, 1), ((0, 0),))
        self.assert_not((1, 1), (1, 1), ((1, 1),))
        self.assert_not((0, 0), (1, 1), ((0, 0), (1, 2)))
        self.assert_not((1, 1), (1, 1), ((0, 1), (2, 2)))
        self.assert_not((0, 0, 0), (1, 2, 2), ((0, 0), (1, 2)))

    def test_a_pair_left_out_or_too_many(self):
        counts, lengths = (0, 0, 3, 0), (2, 3, 1, 3)
        paper = ((0, 1), (3, 4), (2, 5))
        self.assert_let_by(counts, lengths, paper)
        for many in range(3):
            self.assert_not(counts, lengths, paper[:many])
        self.assert_not(counts, lengths, paper[1:])
        self.assert_not(counts, lengths, paper + ((6, 6),))
        self.assert_not(counts, lengths, paper + ((6, 7),))
        self.assert_not(counts, lengths, paper + ((5, 6),))
        # What is left out at last weighs nothing.
        self.assert_not((0, 0, 0), (1, 2, 2), ((0, 1),))

    def test_lengths_with_the_sum_that_cannot_be(self):
        paper = ((0, 1), (2, 3), (4, 5))
        self.assert_let_by((1, 1, 1, 1), (2, 2, 2, 2), paper)
        self.assert_not((1, 1, 1, 1), (1, 1, 3, 3), paper)
        self.assert_not((1, 1, 1, 1), (1, 1, 1, 5), paper)
        self.assert_not((5, 0, 0), (1, 1, 1), ((1, 2), (0, 3)))
        self.assert_let_by((5, 0, 0), (1, 2, 20), ((1, 2), (0, 3)))

    def test_lengths_that_can_be_but_cost_more_or_less(self):
        paper = ((1, 2), (3, 0))
        self.assert_let_by((5, 1, 2), (1, 2, 2), paper)
        for lengths in ((2, 2, 1), (2, 1, 2), (2, 2, 2), (1, 3, 2), (1, 2, 3), (1, 20, 20), (1, 1, 2), (1, 1, 1)):
            self.assert_not((5, 1, 2), lengths, paper)

    def test_lengths_other_than_the_own_that_cost_as_little(self):
        counts = (3, 3, 3)
        paper = paper_of(counts)[1]
        for lengths in itertools.permutations((1, 2, 2)):
            self.assert_let_by(counts, lengths, paper)

    def test_any_lengths_and_any_pairs_against_the_rule(self):
        numbers = range(-1, 6)
        pairs = list(itertools.product(numbers, repeat=2))
        papers = [()] + [(pair,) for pair in pairs] + list(itertools.product(pairs, repeat=2))
        for counts in ((1, 1), (0, 2), (0, 0, 0), (1, 1, 2), (3, 1, 1)):
            good = paper_of(counts)[0]
            for lengths in (good, (2,) * len(counts)):
                for paper in papers:
                    self.assertIs(paper_shown(counts, lengths, paper), shown(counts, lengths, paper),
                                  (counts, lengths, paper))

    def test_all_lengths_against_the_rule(self):
        for counts in ((0, 0, 0, 0), (1, 1, 1, 1), (1, 1, 2, 2), (5, 0, 1, 3)):
            paper = paper_of(counts)[1]
            for lengths in itertools.product(range(1, 5), repeat=4):
                self.assertIs(paper_shown(counts, lengths, paper), shown(counts, lengths, paper), (counts, lengths))

    def test_papers_changed_by_chance_against_the_rule(self):
        chance = random.Random(31)
        seen = {True: 0, False: 0}
        for number in range(2000):
            counts = tuple([chance.randint(0, 3) for thing in range(chance.randint(2, 7))])
            lengths, paper = paper_by_chance(counts, chance)
            pairs = [list(pair) for pair in paper]
            for change in range(chance.randint(0, 2)):
                chance.choice(pairs)[chance.randrange(2)] = chance.randint(-1, 2 * len(counts))
            if chance.random() < 0.2:
                chance.shuffle(pairs)
            changed = tuple([tuple(pair) for pair in pairs])
            wanted = shown(counts, lengths, changed)
            seen[wanted] += 1
            self.assertIs(paper_shown(counts, lengths, changed), wanted, (counts, lengths, changed))
        self.assertGreater(min(seen.values()), 300)

    def test_the_same_asked_again(self):
        counts = (4, 4, 4, 4, 4, 1, 0)
        first = paper_of(counts)
        paper_of((9, 8, 7))
        self.assertEqual(paper_of(counts), first)
        for turn in range(2):
            self.assert_let_by(counts, first[0], first[1])
        self.assertEqual(counts, (4, 4, 4, 4, 4, 1, 0))

    def test_quickly(self):
        begun = time.perf_counter()
        for turn in range(20):
            self.assert_told(tuple([2 ** number for number in range(20)]))
        self.assertLess(time.perf_counter() - begun, 10)

    def test_by_the_names_of_the_arguments(self):
        self.assertEqual(paper_of(counts=(1,)), ((1,), ()))
        self.assertIs(paper_shown(counts=(1,), lengths=(1,), paper=()), True)


if __name__ == "__main__":
    unittest.main()
