import random
import time
import unittest

from shortrows.codes.codes import code_of
from shortrows.errors import NoBits
from shortrows.machine.texts import read_program
from shortrows.packing.packed import book_of, pack_rows
from shortrows.packing.unpacked import read_rows
from shortrows.packing.widths import are_good, least_widths
from test_packed import BITS, BOXES, EQUAL, PARTS, WORDS, BitsEnd, Reader, program_by_chance, row_read

HEADS = ("0", "10", "11")
OWN_PARTS = {None: 0, 0: 5, 1: 10, 2: 18}

# Each of these leaves bits unused: of the words, of the classes, of the boxes.
UNUSED = (
    ((5, 2, 3, 4, 5, 6, 7, 9, 9), EQUAL[1], EQUAL[2]),
    (EQUAL[0], tuple(range(2, 18)) + (17,), EQUAL[2]),
    (EQUAL[0], EQUAL[1], (9, 8, 7, 6, 5, 4, 3, 2)),
)
# No bits unused, so that most bits by chance are some rows.
FULL = ((3, 3, 3, 3, 3, 4, 4, 3, 3), (1, 2, 3, 4, 5, 6) + (9,) * 5 + (10,) * 6, (3,) * 8)
SHORT = ((9, 8, 7, 6, 5, 4, 3, 2, 1), (1,) + tuple(range(2, 17)) + (16,), (1, 2, 3, 4, 5, 6, 7, 7))
BOOKS = (EQUAL, FULL, SHORT) + UNUSED


def plain(text):
    return text.replace(" ", "")


def row_written(row, codes, jump):
    bits = codes[0][WORDS.index(row[0])]
    for kind, part in zip(PARTS[row[0]], row[1:]):
        if kind == "b":
            bits += codes[2][BOXES.index(part)]
        elif kind == "n":
            bits += codes[1][len(format(part, "b")) if part else 0] + format(part, "b")[1:]
        else:
            bits += jump
    return bits


# A program by any widths that are wide enough.
def written(program, book, widths):
    codes = [code_of(lengths) for lengths in book]
    sizes = [len(row_written(row, codes, "")) for row in program]
    starts = [0]
    for size, width in zip(sizes, widths):
        starts.append(starts[-1] + size + OWN_PARTS[width])
    bits = ""
    for number, row in enumerate(program):
        jump = ""
        if widths[number] is not None:
            many = BITS[widths[number]]
            far = starts[row[-1]] - starts[number + 1]
            jump = HEADS[widths[number]] + format(far % 2 ** many, "0" + str(many) + "b")
        bits += row_written(row, codes, jump)
    return bits


def sizes_and_goals(program, book):
    codes = [code_of(lengths) for lengths in book]
    sizes = tuple([len(row_written(row, codes, "")) for row in program])
    return sizes, tuple([row[-1] if "g" in PARTS[row[0]] else None for row in program])


# The document's rule anew: the rows, or the place that is refused.
def rows_or_place(bits, book):
    reader, begins, rows = Reader(bits, book), [], []
    while reader.place < len(bits):
        begins.append(reader.place)
        try:
            rows.append(row_read(reader)[0])
        except BitsEnd:
            return begins[-1]
    places = begins + [len(bits)]
    for begin, row in zip(begins, rows):
        if "g" in PARTS[row[0]] and row[-1] not in places:
            return begin
    return tuple([row[:-1] + (places.index(row[-1]),) if "g" in PARTS[row[0]] else row for row in rows])


def changed_at(bits, place, chance):
    return (bits[:place], bits[:place] + bits[place + 1:], bits[:place] + chance.choice("01") + bits[place:],
            bits[:place] + str(1 - int(bits[place])) + bits[place + 1:])


class ReadRowsTest(unittest.TestCase):
    def assert_rows(self, bits, text, book=EQUAL):
        self.assertEqual(read_rows(plain(bits), book), read_program(text), bits)

    def assert_no_bits(self, bits, place, book=EQUAL):
        with self.assertRaises(NoBits) as caught:
            read_rows(plain(bits), book)
        self.assertEqual(caught.exception.place, place, bits)
        self.assertIs(type(caught.exception.place), int)

    def assert_as_told(self, bits, book):
        told = rows_or_place(bits, book)
        if isinstance(told, int):
            self.assert_no_bits(bits, told, book)
        else:
            self.assertEqual(read_rows(bits, book), told)
        return told

    def test_bits_without_signs(self):
        for book in BOOKS:
            self.assertEqual(read_rows("", book), ())

    def test_each_of_the_nine_words(self):
        self.assert_rows("0000 000 00011 01", "put a 5")
        self.assert_rows("0001 001 010", "add b c")
        self.assert_rows("0010 011 100", "sub d e")
        self.assert_rows("0011 101 110", "copy f g")
        self.assert_rows("0100 111", "tell h")
        self.assert_rows("0101 000", "hear a")
        self.assert_rows("0110 0 0000", "jump 1")
        self.assert_rows("0111 010 0 0000", "zero c 1")
        self.assert_rows("1000", "halt")

    def test_rows_one_behind_the_other(self):
        self.assert_rows("0101 000 0000 001 00001 0111 000 10 00011111 0010 000 001 0100 000 0110 10 11010000 1000",
                         "hear a\nput b 1\nzero a 6\nsub a b\ntell a\njump 2\nhalt")

    def test_numbers_of_each_class(self):
        self.assert_rows("0000 000 00000", "put a 0")
        self.assert_rows("0000 000 00001", "put a 1")
        self.assert_rows("0000 000 00010 0", "put a 2")
        self.assert_rows("0000 000 00010 1", "put a 3")
        for figures in range(1, 17):
            ahead = "0000 111" + format(figures, "05b")
            self.assert_rows(ahead + "0" * (figures - 1), "put h " + str(2 ** (figures - 1)))
            self.assert_rows(ahead + "1" * (figures - 1), "put h " + str(2 ** figures - 1))
            self.assert_rows(ahead + "1" * (figures - 1) + "1000", "put h " + str(2 ** figures - 1) + "\nhalt")

    def test_classes_0_and_1_have_no_figures_behind(self):
        self.assert_rows("0000 000 00000 0000 000 00001 0000 000 00000 1000", "put a 0\nput a 1\nput a 0\nhalt")

    def test_each_box_in_each_place(self):
        for number, box in enumerate(BOXES):
            bits = format(number, "03b")
            self.assert_rows("0001 010" + bits, "add c " + box)
            self.assert_rows("0011" + bits + "010", "copy " + box + " c")
            self.assert_rows("0000" + bits + "00000", "put " + box + " 0")
            self.assert_rows("0111" + bits + "0 0000", "zero " + box + " 1")

    def test_jumps_of_each_width_greater_than_the_least(self):
        # To behind all: 0 bits on, by each width.
        self.assert_rows("0110 0 0000", "jump 1")
        self.assert_rows("0110 10 00000000", "jump 1")
        self.assert_rows("0110 11 0000000000000000", "jump 1")
        # To itself: 14 and 22 bits back.
        self.assert_rows("0110 10 11110010", "jump 0")
        self.assert_rows("0110 11 1111111111101010", "jump 0")
        self.assert_rows("0111 000 11 1111111111100111", "zero a 0")
        # Over a row, and back over one.
        self.assert_rows("0110 0 0100 1000", "jump 2\nhalt")
        self.assert_rows("0110 10 00000100 1000", "jump 2\nhalt")
        self.assert_rows("0110 11 0000000000000100 1000", "jump 2\nhalt")
        self.assert_rows("1000 0110 11 1111111111100110", "halt\njump 0")

    def test_a_jump_of_4_bits_to_itself(self):
        book = ((4, 4, 4, 4, 4, 4, 3, 4, 4), EQUAL[1], EQUAL[2])
        self.assert_rows("000 0 1000", "jump 0", book)

    def test_a_row_cut_at_each_of_its_bits(self):
        rows = ("0000 000 00011 01", "0001 001 010", "0010 011 100", "0011 101 110", "0100 111", "0101 000",
                "0110 0 0000", "0110 10 00000000", "0110 11 0000000000000000", "0111 010 0 0000",
                "0111 010 10 00000000", "0111 010 11 0000000000000000", "1000",
                "0000 000 10000 111111111111111", "0000 000 00010 1")
        for row in rows:
            bits = plain(row)
            for end in range(1, len(bits)):
                self.assert_no_bits(bits[:end], 0)
                self.assert_no_bits("1000 0100 000" + bits[:end], 11)
            self.assertEqual(len(read_rows("1000" + bits, EQUAL)), 2)

    def test_cut_in_its_word_box_class_figures_width_distance(self):
        self.assert_no_bits("1000 000", 4)
        self.assert_no_bits("1000 0100", 4)
        self.assert_no_bits("1000 0100 01", 4)
        self.assert_no_bits("1000 0001 001 01", 4)
        self.assert_no_bits("1000 0000 000", 4)
        self.assert_no_bits("1000 0000 000 0001", 4)
        self.assert_no_bits("1000 0000 000 00011", 4)
        self.assert_no_bits("1000 0000 000 00011 1", 4)
        self.assert_no_bits("1000 0000 000 00010", 4)
        self.assert_no_bits("1000 0110", 4)
        self.assert_no_bits("1000 0110 1", 4)
        self.assert_no_bits("1000 0110 0", 4)
        self.assert_no_bits("1000 0110 10", 4)
        self.assert_no_bits("1000 0110 11", 4)
        self.assert_no_bits("1000 0110 0 000", 4)
        self.assert_no_bits("1000 0110 10 0000000", 4)
        self.assert_no_bits("1000 0110 11 000000000000000", 4)
        self.assert_no_bits("1000 0111 000", 4)

    def test_bits_that_no_word_begins(self):
        for number in range(9, 16):
            self.assert_no_bits(format(number, "04b"), 0)
            self.assert_no_bits("1000 0100 000" + format(number, "04b") + "1000 1000", 11)
        for number in range(17, 32):
            self.assert_no_bits("1000 0000 000" + format(number, "05b") + "1" * 40, 4)
        boxes = (EQUAL[0], EQUAL[1], (4,) * 8)
        self.assert_rows("0100 0111", "tell h", boxes)
        self.assert_no_bits("1000 0100 1000 1000", 4, boxes)
        self.assert_no_bits("1000 0001 0000 1111 1000", 4, boxes)
        self.assert_no_bits("1000 0111 1010 0 0000", 4, boxes)

    def test_a_jump_below_0(self):
        # 14 back from 14 is 0 itself.
        self.assert_no_bits("0110 10 11110001", 0)
        self.assert_no_bits("0110 10 10000000", 0)
        self.assert_no_bits("0110 11 1000000000000000", 0)
        self.assert_no_bits("1000 0110 10 11101101", 4)
        # As far below 0 as a row begins above it, and as far as one does from the end.
        self.assert_no_bits("1000 0110 10 11101010", 4)
        self.assert_no_bits("1000 1000 0110 10 11100110", 8)

    def test_a_jump_beyond_all_bits(self):
        self.assert_rows("0110 0 0000", "jump 1")
        self.assert_no_bits("0110 0 0001", 0)
        self.assert_no_bits("0110 0 0111", 0)
        self.assert_no_bits("0110 10 01111111", 0)
        self.assert_no_bits("0110 11 0111111111111111", 0)
        self.assert_rows("1000 0110 0 0100 1000", "halt\njump 3\nhalt")
        self.assert_no_bits("1000 0110 0 0101 1000", 4)

    def test_a_jump_into_a_row(self):
        for far in (1, 2, 3):
            self.assert_no_bits("0110 0" + format(far, "04b") + "1000", 0)
            self.assert_no_bits("1000 0110 10" + format(256 - 18 + far, "08b"), 4)
        self.assert_no_bits("0110 0 1111", 0)
        self.assert_no_bits("0110 0 1000", 0)
        self.assert_no_bits("0110 10 11110011", 0)

    def test_a_zero_row_is_looked_at_likewise(self):
        self.assert_rows("0111 000 0 0100 1000", "zero a 2\nhalt")
        self.assert_no_bits("0111 000 0 0011 1000", 0)
        self.assert_no_bits("0111 000 0 0101 1000", 0)
        self.assert_no_bits("0111 000 10 11101110", 0)

    def test_of_several_that_go_nowhere_the_first(self):
        self.assert_no_bits("1000 0110 0 0001 0110 0 0001", 4)
        self.assert_no_bits("0110 0 0000 0110 0 0001 0111 000 0 0001", 9)

    def test_one_that_cannot_be_read_is_told_ahead_of_one_that_goes_nowhere(self):
        self.assert_no_bits("0110 0 0001 1000 1001", 13)
        self.assert_no_bits("0110 0 0001 1000 100", 13)
        self.assert_no_bits("0110 10 10000000 1000 0000 000 00011 1", 18)
        # Nor does it matter that the earlier one goes to the one that cannot be read, or beyond.
        self.assert_no_bits("0110 0 0000 1111", 9)
        self.assert_no_bits("0110 0 0111 0110 1", 9)

    def test_a_book_of_other_lengths_than_the_one_that_packed(self):
        program = read_program("hear a\nput b 1\nzero a 6\nsub a b\ntell a\njump 2\nhalt")
        bits = pack_rows(program, EQUAL)[0]
        for book in BOOKS[1:]:
            self.assert_as_told(bits, book)
            self.assert_as_told(pack_rows(program, book)[0], EQUAL)
        book = (EQUAL[0], EQUAL[1], (1, 2, 3, 4, 5, 6, 7, 7))
        self.assert_rows("0100 111", "tell h")
        self.assert_no_bits("0100 111", 0, book)
        self.assert_rows("0100 0 0100 10", "tell a\ntell b", book)

    def test_by_unequal_lengths(self):
        self.assert_rows("0 10 1110 0 0001 0", "halt\nzero d 3\nhalt", SHORT)
        self.assert_rows("111111110 0 110 0 111111110 1111111 0", "put a 2\nput h 0", SHORT)
        self.assert_rows("11111110 10 0 111110 1111110 110", "add b a\ncopy g c", SHORT)
        self.assert_no_bits("0 111111111", 1, SHORT)

    def test_what_is_packed_is_read_back(self):
        chance = random.Random(79)
        for number in range(120):
            program = program_by_chance(chance, chance.choice((0, 1, 2, 5, 20, 60)))
            counts = tuple([chance.choice((0, 1, chance.randint(0, 10 ** 12 - 1))) for row in program])
            for book in BOOKS + (book_of(program, counts),):
                bits = pack_rows(program, book)[0]
                self.assertEqual(read_rows(bits, book), program)

    def test_widths_greater_than_the_least_by_chance(self):
        chance = random.Random(83)
        seen = {}
        for number in range(600):
            program = program_by_chance(chance, chance.choice((1, 2, 3, 6, 20)))
            book = chance.choice(BOOKS)
            sizes, goals = sizes_and_goals(program, book)
            widest = tuple([None if goal is None else 2 for goal in goals])
            raised = tuple([None if width is None else min(2, width + chance.choice((0, 0, 1)))
                            for width in least_widths(sizes, goals)])
            for choice in (widest, raised):
                if are_good(sizes, goals, choice):
                    self.assertEqual(read_rows(written(program, book, choice), book), program)
                    for width in choice:
                        seen[width] = seen.get(width, 0) + 1
        self.assertGreater(min([seen[width] for width in (0, 1, 2)]), 20)

    def test_bits_cut_and_changed_at_each_place(self):
        chance = random.Random(89)
        told = []
        for number in range(36):
            program = program_by_chance(chance, chance.choice((1, 3, 6)))
            for book in (BOOKS[number % len(BOOKS)], book_of(program, (1,) * len(program))):
                bits = pack_rows(program, book)[0]
                for place in range(len(bits)):
                    for other in changed_at(bits, place, chance):
                        told.append(self.assert_as_told(other, book))
        refused = [answer for answer in told if isinstance(answer, int)]
        self.assertGreater(len(refused), 1000)
        self.assertGreater(len(told) - len(refused), 1000)

    def test_any_bits_by_chance(self):
        chance = random.Random(97)
        rows = 0
        for number in range(1500):
            bits = "".join([chance.choice("01") for place in range(chance.choice((1, 5, 20, 60)))])
            rows += isinstance(self.assert_as_told(bits, BOOKS[number % len(BOOKS)]), tuple)
        self.assertGreater(rows, 30)

    def test_all_short_bits(self):
        for book in (EQUAL, SHORT):
            for many in range(1, 11):
                for number in range(2 ** many):
                    self.assert_as_told(format(number, "0" + str(many) + "b"), book)

    def test_6000_bits_quickly(self):
        begun = time.perf_counter()
        self.assertEqual(read_rows("0" * 6000, SHORT), (("halt",),) * 6000)
        self.assertEqual(read_rows("1000" * 1500, EQUAL), (("halt",),) * 1500)
        self.assert_no_bits("1000" * 1499 + "1001", 5996)
        self.assert_no_bits("1" * 6000, 0)
        self.assertEqual(len(read_rows(plain("0110 0 0000") * 666, EQUAL)), 666)
        far = plain("0110 11") + format(4 * 1494, "016b")
        self.assertEqual(read_rows(far + "1000" * 1494, EQUAL)[0], ("jump", 1495))
        self.assertLess(time.perf_counter() - begun, 5)

    def test_kinds(self):
        program = read_rows(plain("0000 000 00000 0000 000 00011 01 0110 0 0000"), EQUAL)
        self.assertIs(type(program), tuple)
        for row in program:
            self.assertIs(type(row), tuple)
            self.assertTrue(all([type(part) in (int, str) for part in row]))

    def test_the_same_asked_again(self):
        bits = plain("0110 0 0100 1000")
        first = read_rows(bits, EQUAL)
        self.assert_no_bits("1001", 0)
        read_rows("0", SHORT)
        self.assertEqual(read_rows(bits, EQUAL), first)

    def test_by_the_names_of_the_arguments(self):
        self.assertEqual(read_rows(bits="1000", book=EQUAL), (("halt",),))


if __name__ == "__main__":
    unittest.main()
