import functools
import heapq
import itertools
import random
import time
import unittest
from fractions import Fraction

from shortrows.codes.lengths import can_be, cost_of, least_lengths
from shortrows.errors import NoCode, ShortError


def fits(lengths):
    return sum([Fraction(1, 2 ** length) for length in lengths]) <= 1


@functools.lru_cache(None)
def all_lengths(things, bound):
    return [lengths for lengths in itertools.product(range(1, bound + 1), repeat=things) if fits(lengths)]


def least_by_going_through_all(counts, bound):
    costs = [sum(map(lambda count, length: count * length, counts, lengths))
             for lengths in all_lengths(len(counts), bound)]
    return min(costs, default=None)


# The least cost level by level: at each level some of the open places become words, the others part in two.
def least_by_levels(counts, bound):
    order = sorted(counts, reverse=True)

    @functools.lru_cache(None)
    def least(level, done, places):
        if done == len(order):
            return 0
        if level > bound:
            return None
        below = [least(level + 1, done + words, min(2 * (places - words), len(order)))
                 for words in range(min(places, len(order) - done) + 1)]
        found = [cost for cost in below if cost is not None]
        return min(found) + sum(order[done:]) if found else None

    return least(1, 0, 2)


def least_without_bound(counts):
    heap, cost = list(counts), 0
    heapq.heapify(heap)
    while len(heap) > 1:
        both = heapq.heappop(heap) + heapq.heappop(heap)
        cost += both
        heapq.heappush(heap, both)
    return cost


class LengthsTest(unittest.TestCase):
    def assert_least(self, counts, bound, cost):
        lengths = least_lengths(counts, bound)
        self.assertIs(type(lengths), tuple)
        self.assertEqual(len(lengths), len(counts))
        for length in lengths:
            self.assertIs(type(length), int)
            self.assertTrue(1 <= length <= bound, (counts, bound, lengths))
        self.assertTrue(fits(lengths), (counts, bound, lengths))
        self.assertEqual(sum([count * length for count, length in zip(counts, lengths)]), cost, (counts, bound))
        self.assertEqual(cost_of(counts, lengths), cost)
        self.assertIs(can_be(lengths), True)

    def assert_none(self, counts, bound):
        with self.assertRaises(NoCode):
            least_lengths(counts, bound)

    def test_ordinary(self):
        self.assertEqual(least_lengths((5, 1, 2), 10), (1, 2, 2))
        self.assertEqual(least_lengths((1, 2, 4, 8), 10), (3, 3, 2, 1))
        self.assertEqual(least_lengths((1, 2, 4, 8), 2), (2, 2, 2, 2))
        self.assertEqual(least_lengths((3, 9), 40), (1, 1))

    def test_one_thing_alone(self):
        for count in (0, 1, 10 ** 12 - 1):
            for bound in (1, 2, 40):
                self.assertEqual(least_lengths((count,), bound), (1,))
            self.assert_none((count,), 0)

    def test_counts_of_0(self):
        self.assert_least((0, 0), 1, 0)
        self.assert_least((0, 0, 0), 2, 0)
        self.assert_least((0, 5, 0), 2, 5)
        self.assert_least((7, 0, 0, 0), 3, 7)
        self.assert_least((7, 0, 0, 0), 2, 14)
        self.assert_least((0,) * 19 + (1,), 40, 1)
        self.assert_least((0,) * 20, 5, 0)

    def test_bound_of_0(self):
        for things in range(1, 21):
            self.assert_none((3,) * things, 0)

    def test_bounds_that_just_let_and_those_too_small(self):
        for bound in range(1, 5):
            for things in (2 ** bound - 1, 2 ** bound):
                least_lengths((1,) * things, bound)
            self.assertEqual(least_lengths(tuple(range(2 ** bound)), bound), (bound,) * 2 ** bound)
            self.assert_none((1,) * (2 ** bound + 1), bound)
        self.assert_none((1,) * 20, 4)
        self.assert_none((0,) * 17, 4)
        self.assert_least((1,) * 20, 5, least_by_levels((1,) * 20, 5))

    def test_the_refusal_is_a_short_error(self):
        with self.assertRaises(ShortError):
            least_lengths((1, 1, 1), 1)

    def test_against_going_through_all_lengths(self):
        cases = [(counts, bound) for things in (1, 2, 3) for counts in itertools.product(range(5), repeat=things)
                 for bound in range(0, 5)]
        chance = random.Random(11)
        for things, bounds in ((4, (1, 2, 3, 4, 5)), (5, (2, 3, 4, 5)), (6, (2, 3, 4))):
            for bound in bounds:
                for number in range(60 if things < 6 else 15):
                    most = chance.choice((1, 3, 10, 100))
                    cases.append((tuple([chance.randint(0, most) for thing in range(things)]), bound))
        for counts, bound in cases:
            cost = least_by_going_through_all(counts, bound)
            if cost is None:
                self.assert_none(counts, bound)
            else:
                self.assert_least(counts, bound, cost)

    def test_a_bound_that_binds(self):
        counts = (1, 1, 2, 3, 5)
        self.assertEqual([cost_of(counts, least_lengths(counts, bound)) for bound in (3, 4, 5, 40)],
                         [least_by_going_through_all(counts, 3), 25, 25, 25])
        self.assertGreater(least_by_going_through_all(counts, 3), 25)
        self.assert_least((1, 1, 2, 3, 5, 8), 3, least_by_going_through_all((1, 1, 2, 3, 5, 8), 3))

    def test_many_great_counts(self):
        chance = random.Random(13)
        steep = [1, 1]
        while len(steep) < 20:
            steep.append(steep[-1] + steep[-2])
        rows = [
            (10 ** 12 - 1,) * 20,
            tuple([10 ** 12 - 1 - number for number in range(20)]),
            tuple([count * 10 ** 8 for count in steep]),
            tuple([2 ** (2 * number) for number in range(20)][::-1]),
            tuple([0] * 10 + [10 ** 12 - 1] * 10),
            tuple([chance.randint(0, 10 ** 12 - 1) for number in range(20)]),
            tuple([chance.choice((0, 1, 10 ** 6, 10 ** 12 - 1)) for number in range(20)]),
        ]
        for counts in rows:
            self.assertTrue(max(counts) < 10 ** 12)
            self.assert_none(counts, 4)
            for bound in range(5, 41):
                self.assert_least(counts, bound, least_by_levels(counts, min(bound, 20)))
            self.assert_least(counts, 40, least_without_bound(counts))

    def test_quickly(self):
        begun = time.perf_counter()
        for bound in range(5, 41):
            least_lengths(tuple([10 ** 12 - 1 - number for number in range(20)]), bound)
        self.assertLess(time.perf_counter() - begun, 10)

    def test_any_number_of_things_and_bound(self):
        chance = random.Random(17)
        for things in range(2, 21):
            for bound in range(1, 14):
                counts = tuple([int(10 ** chance.uniform(0, 5)) for thing in range(things)])
                cost = least_by_levels(counts, bound)
                if cost is None:
                    self.assertGreater(things, 2 ** bound)
                    self.assert_none(counts, bound)
                else:
                    self.assert_least(counts, bound, cost)

    def test_can_be(self):
        for lengths in ((1,), (1, 1), (1, 2, 2), (2, 1, 2), (2, 2, 2, 2), (3,) * 8, (20,) * 20, (5,), (1, 20),
                        tuple(range(1, 20)), tuple(range(1, 20)) + (19,), (4, 3, 2, 1, 4)):
            self.assertIs(can_be(lengths), True, lengths)
        for lengths in ((1, 1, 1), (1, 1, 20), (20, 1, 1), (1, 2, 2, 20), (2,) * 5, (3,) * 9, (4,) * 17,
                        tuple(range(1, 20)) + (19, 20), (1, 2, 3, 3, 3)):
            self.assertIs(can_be(lengths), False, lengths)

    def test_lengths_that_just_fill_and_one_more(self):
        chance = random.Random(19)
        for number in range(200):
            lengths = [0]
            while len(lengths) < chance.randint(2, 19) and max(lengths) < 20:
                parted = lengths.pop(chance.randrange(len(lengths))) + 1
                lengths.extend([parted, parted])
            chance.shuffle(lengths)
            self.assertIs(can_be(tuple(lengths)), True)
            self.assertIs(can_be(tuple(lengths[1:])), True)
            for further in (1, 20):
                self.assertIs(can_be(tuple(lengths + [further])), False)
                self.assertIs(can_be(tuple([further] + lengths)), False)

    def test_can_be_against_the_sum_itself(self):
        for things in range(1, 6):
            for lengths in itertools.product(range(1, 6), repeat=things):
                self.assertIs(can_be(lengths), fits(lengths), lengths)
        chance = random.Random(23)
        for number in range(2000):
            lengths = tuple([chance.randint(1, chance.choice((4, 5, 20))) for thing in range(chance.randint(1, 20))])
            self.assertIs(can_be(lengths), fits(lengths), lengths)

    def test_cost_of(self):
        self.assertEqual(cost_of((5, 1, 2), (1, 2, 2)), 11)
        self.assertEqual(cost_of((0,), (1,)), 0)
        self.assertEqual(cost_of((0, 0, 3), (20, 20, 7)), 21)
        self.assertEqual(cost_of((10 ** 12 - 1,) * 20, (20,) * 20), 400 * (10 ** 12 - 1))
        self.assertIs(type(cost_of((1, 2), (3, 4))), int)

    def test_cost_of_lengths_that_cannot_be(self):
        self.assertEqual(cost_of((1, 2, 3), (1, 1, 1)), 6)

    def test_the_same_asked_again(self):
        counts = (4, 4, 4, 4, 4, 1)
        first = least_lengths(counts, 4)
        least_lengths((9, 8, 7), 3)
        self.assertEqual(least_lengths(counts, 4), first)
        self.assertEqual(counts, (4, 4, 4, 4, 4, 1))

    def test_by_the_names_of_the_arguments(self):
        self.assertEqual(least_lengths(counts=(1, 1), bound=1), (1, 1))
        self.assertIs(can_be(lengths=(1, 1)), True)
        self.assertEqual(cost_of(counts=(1, 1), lengths=(1, 1)), 2)


if __name__ == "__main__":
    unittest.main()
