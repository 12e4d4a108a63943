import itertools
import random
import time
import unittest

from shortrows.codes.codes import code_of, is_code, thing_at, things_read, things_written
from shortrows.codes.lengths import least_lengths
from shortrows.errors import NoBits, NoCode, ShortError
from test_lengths import fits


# The words of [12] by whole numbers.
def words_of(lengths):
    words, ahead, last = [None] * len(lengths), None, 0
    for length, thing in sorted([(length, thing) for thing, length in enumerate(lengths)]):
        ahead = 0 if ahead is None else (ahead + 1) << (length - last)
        last = length
        words[thing] = format(ahead, "0" + str(length) + "b")
    return tuple(words)


def none_begins_another(code):
    return not any([other[:len(word)] == word for word, other in itertools.permutations(code, 2)])


def filling_lengths(things, longest, chance):
    lengths = [0]
    while len(lengths) < things:
        short = [place for place, length in enumerate(lengths) if length < longest]
        parted = lengths.pop(chance.choice(short)) + 1
        lengths.extend([parted, parted])
    chance.shuffle(lengths)
    return tuple(lengths)


class CodeOfTest(unittest.TestCase):
    def assert_refused(self, lengths):
        with self.assertRaises(NoCode):
            code_of(lengths)

    def test_ordinary(self):
        self.assertEqual(code_of((1, 2, 2)), ("0", "10", "11"))
        self.assertEqual(code_of((2, 1, 2)), ("10", "0", "11"))
        self.assertEqual(code_of((3, 3, 2, 1)), ("110", "111", "10", "0"))
        self.assertEqual(code_of((2, 3, 3, 2, 2)), ("00", "110", "111", "01", "10"))
        self.assertIs(type(code_of((1, 2, 2))), tuple)

    def test_one_thing_of_any_length(self):
        for length in range(1, 21):
            self.assertEqual(code_of((length,)), ("0" * length,))

    def test_lengths_alike(self):
        self.assertEqual(code_of((1, 1)), ("0", "1"))
        self.assertEqual(code_of((3, 3, 3)), ("000", "001", "010"))
        self.assertEqual(code_of((4,) * 16), tuple([format(number, "04b") for number in range(16)]))
        self.assertEqual(code_of((20, 20)), ("0" * 20, "0" * 19 + "1"))

    def test_lengths_with_gaps(self):
        self.assertEqual(code_of((1, 4)), ("0", "1000"))
        self.assertEqual(code_of((4, 1)), ("1000", "0"))
        self.assertEqual(code_of((2, 5, 2, 5)), ("00", "10000", "01", "10001"))
        self.assertEqual(code_of((1, 20)), ("0", "1" + "0" * 19))
        self.assertEqual(code_of((3, 6, 3, 3)), ("000", "011000", "001", "010"))

    def test_in_any_order(self):
        for lengths in itertools.permutations((1, 3, 3, 4, 6)):
            self.assertEqual(code_of(lengths), words_of(lengths))

    def test_lengths_that_just_fill_and_one_beyond(self):
        self.assertEqual(code_of(tuple(range(1, 20)) + (19,))[-2:], ("1" * 18 + "0", "1" * 19))
        self.assert_refused((1, 1, 1))
        self.assert_refused((1, 2, 2, 20))
        self.assert_refused((20, 1, 1))
        self.assert_refused((4,) * 17)
        self.assert_refused(tuple(range(1, 20)) + (19, 20))
        chance = random.Random(37)
        for number in range(200):
            lengths = filling_lengths(chance.randint(2, 19), 20, chance)
            code = code_of(lengths)
            self.assertEqual(code, words_of(lengths))
            self.assertIn("1" * max(lengths), code)
            for further in (1, 20):
                self.assert_refused(lengths + (further,))
                self.assert_refused((further,) + lengths)

    def test_against_the_words_of_numbers(self):
        for things in range(1, 6):
            for lengths in itertools.product(range(1, 5), repeat=things):
                if fits(lengths):
                    self.assertEqual(code_of(lengths), words_of(lengths))
                else:
                    self.assert_refused(lengths)

    def test_each_is_a_code_with_its_lengths(self):
        chance = random.Random(41)
        for number in range(200):
            counts = tuple([chance.randint(0, 10 ** 6) for thing in range(chance.randint(1, 20))])
            lengths = least_lengths(counts, chance.randint(5, 40))
            code = code_of(lengths)
            self.assertEqual(tuple([len(word) for word in code]), lengths)
            self.assertTrue(none_begins_another(code))
            self.assertIs(is_code(code), True)

    def test_the_refusal_is_a_short_error(self):
        with self.assertRaises(ShortError):
            code_of((1, 1, 1))


class IsCodeTest(unittest.TestCase):
    def assert_in_any_order(self, code, wanted):
        for words in itertools.permutations(code):
            self.assertIs(is_code(words), wanted, words)

    def test_ordinary(self):
        self.assert_in_any_order(("0", "10", "11"), True)
        self.assert_in_any_order(("00", "010", "1110"), True)
        self.assert_in_any_order(("0", "1"), True)

    def test_one_word_alone(self):
        for word in ("", "0", "1", "0101", "1" * 20):
            self.assertIs(is_code((word,)), True)

    def test_a_word_without_signs_beside_others(self):
        self.assert_in_any_order(("", "0"), False)
        self.assert_in_any_order(("", "1", "01"), False)
        self.assert_in_any_order(("", ""), False)

    def test_the_same_word_twice(self):
        self.assert_in_any_order(("0", "0"), False)
        self.assert_in_any_order(("10", "0", "10"), False)
        self.assert_in_any_order(("110", "0", "10", "110"), False)

    def test_a_word_that_begins_another_one(self):
        self.assert_in_any_order(("1", "10"), False)
        self.assert_in_any_order(("0", "10", "101"), False)
        self.assert_in_any_order(("0", "10", "1011", "1100"), False)
        self.assert_in_any_order(("01", "10", "0111", "00"), False)

    def test_a_word_that_stands_in_another_one_otherwise(self):
        self.assert_in_any_order(("0", "10", "110", "1110"), True)
        self.assert_in_any_order(("1", "01", "001"), True)
        self.assert_in_any_order(("10", "0101"), True)

    def test_against_each_pair(self):
        words = [""] + ["".join(signs) for length in (1, 2, 3) for signs in itertools.product("01", repeat=length)]
        for many in (1, 2, 3):
            for code in itertools.product(words, repeat=many):
                self.assertIs(is_code(code), none_begins_another(code), code)
        chance = random.Random(43)
        for number in range(1000):
            sizes = [chance.randint(2, 6) for word in range(chance.randint(2, 6))]
            code = tuple(["".join(chance.choices("01", k=size)) for size in sizes])
            self.assertIs(is_code(code), none_begins_another(code), code)


class ThingsTest(unittest.TestCase):
    def assert_refused(self, code, bits, place):
        with self.assertRaises(NoBits) as taken:
            things_read(code, bits)
        self.assertEqual(taken.exception.place, place, (code, bits))
        self.assertIs(type(taken.exception.place), int)

    def test_written(self):
        code = ("0", "10", "11")
        self.assertEqual(things_written(code, (0, 1, 2, 0, 2)), "01011011")
        self.assertEqual(things_written(code, (2,)), "11")
        self.assertEqual(things_written(code, ()), "")

    def test_written_by_what_no_code_need_be(self):
        self.assertEqual(things_written(("", "0", "0", "01"), (0, 1, 2, 3, 0)), "0001")

    def test_read(self):
        code = ("0", "10", "11")
        self.assertEqual(things_read(code, "01011011"), (0, 1, 2, 0, 2))
        self.assertEqual(things_read(("11", "0", "10"), "01011011"), (1, 2, 0, 1, 0))
        self.assertIs(type(things_read(code, "0")), tuple)

    def test_bits_without_signs(self):
        for code in (("0",), ("0", "1"), ("01", "1")):
            self.assertEqual(things_read(code, ""), ())

    def test_a_word_that_is_cut(self):
        code = ("0", "10", "110", "111")
        self.assert_refused(code, "1", 0)
        self.assert_refused(code, "11", 0)
        self.assert_refused(code, "01", 1)
        self.assert_refused(code, "011", 1)
        self.assert_refused(code, "010111" + "11", 6)
        self.assert_refused(("0" * 20,), "0" * 39, 20)

    def test_bits_that_no_word_begins(self):
        self.assert_refused(("0",), "1", 0)
        self.assert_refused(("0",), "0010", 2)
        self.assert_refused(("00", "01", "10"), "0111", 2)
        self.assert_refused(("00", "01", "10"), "011100000000", 2)
        self.assert_refused(("00", "10000"), "00100010000", 2)

    def test_the_first_of_several_such(self):
        self.assert_refused(("00", "01", "10"), "00111101110", 2)
        self.assert_refused(("0",), "0111", 1)

    def test_codes_that_leave_bits_unused(self):
        self.assertEqual(things_read(("00", "01", "10"), "000110"), (0, 1, 2))
        self.assertEqual(things_read(("101",), "101101"), (0, 0))
        self.assertEqual(things_read(("0", "1000"), "0100001000"), (0, 1, 0, 1))

    def test_codes_other_than_those_of_lengths(self):
        self.assertEqual(things_read(("1", "01", "001"), "001101"), (2, 0, 1))
        self.assertEqual(things_read(("111", "0", "10"), "111010111"), (0, 1, 2, 0))

    # Not asked of things_read itself, which would go on for ever if this were broken.
    def test_a_word_without_signs_is_read_nowhere(self):
        self.assertIsNone(thing_at(("",), "0", 0))
        self.assertEqual(thing_at(("", "0"), "10", 1), 1)

    def test_there_and_back(self):
        chance = random.Random(47)
        for number in range(200):
            lengths = filling_lengths(chance.randint(2, 20), 20, chance)
            kept = lengths[:chance.randint(1, len(lengths))]
            code = code_of(kept)
            things = tuple([chance.randrange(len(kept)) for thing in range(chance.randint(0, 400))])
            bits = things_written(code, things)
            self.assertEqual(bits, "".join([code[thing] for thing in things]))
            self.assertEqual(things_read(code, bits), things)

    def test_cut_anywhere(self):
        code = code_of((2, 3, 3, 2, 3))
        bits = things_written(code, (1, 0, 2, 3, 4))
        begins = (0, 3, 5, 8, 10, 13)
        for many in range(len(bits) + 1):
            if many in begins:
                self.assertEqual(len(things_read(code, bits[:many])), begins.index(many))
            else:
                self.assert_refused(code, bits[:many], max([place for place in begins if place < many]))

    def test_the_refusal_is_a_short_error(self):
        with self.assertRaises(ShortError):
            things_read(("0",), "1")

    def test_quickly(self):
        begun = time.perf_counter()
        code = code_of((19,) + tuple(range(1, 20)))
        for turn in range(10):
            self.assertEqual(things_read(code, "0" * 6000), (1,) * 6000)
            self.assertEqual(things_read(code, things_written(code, (0,) * 300)), (0,) * 300)
        self.assert_refused(("1",), "0" * 6000, 0)
        self.assertLess(time.perf_counter() - begun, 10)

    def test_the_same_asked_again(self):
        code = ("10", "0")
        for turn in range(2):
            self.assertEqual(code_of((2, 1)), code)
            self.assertIs(is_code(code), True)
            self.assertEqual(things_written(code, (0, 1)), "100")
            self.assertEqual(things_read(code, "100"), (0, 1))
            self.assert_refused(code, "101", 2)

    def test_by_the_names_of_the_arguments(self):
        self.assertEqual(code_of(lengths=(1,)), ("0",))
        self.assertIs(is_code(code=("0",)), True)
        self.assertEqual(things_written(code=("0",), things=(0, 0)), "00")
        self.assertEqual(things_read(code=("0",), bits="00"), (0, 0))


if __name__ == "__main__":
    unittest.main()
