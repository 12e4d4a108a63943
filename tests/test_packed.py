import random
import time
import unittest

from shortrows.codes.codes import code_of
from shortrows.codes.lengths import least_lengths
from shortrows.machine.texts import read_program
from shortrows.packing.packed import book_of, pack_rows
from shortrows.packing.widths import least_widths
from test_lengths import fits

WORDS = ("put", "add", "sub", "copy", "tell", "hear", "jump", "zero", "halt")
PARTS = {"put": "bn", "add": "bb", "sub": "bb", "copy": "bb", "tell": "b", "hear": "b", "jump": "g", "zero": "bg",
         "halt": ""}
BOXES = "abcdefgh"
BITS = (4, 8, 16)

# The codes of these are the numbers themselves, in 4, 5 and 3 bits.
EQUAL = ((4,) * 9, (5,) * 17, (3,) * 8)


def cost(counts, lengths):
    return sum([count * length for count, length in zip(counts, lengths)])


# How often each word, class and box comes.
def comes(program, counts):
    sums = ([0] * 9, [0] * 17, [0] * 8)
    for row, count in zip(program, counts):
        sums[0][WORDS.index(row[0])] += count
        if row[0] == "put":
            sums[1][len(format(row[2], "b")) if row[2] else 0] += count
        for part in row[1:]:
            if isinstance(part, str):
                sums[2][BOXES.index(part)] += count
    return sums


class BitsEnd(AssertionError):
    pass


class Reader:
    def __init__(self, bits, book, place=0):
        self.bits, self.place = bits, place
        self.codes = [{word: thing for thing, word in enumerate(code_of(lengths))} for lengths in book]

    def figures(self, many):
        self.place += many
        if self.place > len(self.bits):
            raise BitsEnd("the bits end within a row")
        return self.bits[self.place - many:self.place]

    def thing(self, which):
        word = ""
        while word not in self.codes[which]:
            word += self.figures(1)
        return self.codes[which][word]

    def number(self):
        figures = self.thing(1)
        return int("1" + self.figures(figures - 1), 2) if figures else 0

    def jump(self):
        width = 0 if self.figures(1) == "0" else 1 + int(self.figures(1))
        told = int(self.figures(BITS[width]), 2)
        return width, told - 2 ** BITS[width] if told >= 2 ** (BITS[width] - 1) else told


# The row that stands next, with the place of the bit that it goes to, and its width.
def row_read(reader):
    row, width = [WORDS[reader.thing(0)]], None
    for kind in PARTS[row[0]]:
        if kind == "b":
            row.append(BOXES[reader.thing(2)])
        elif kind == "n":
            row.append(reader.number())
        else:
            width, distance = reader.jump()
            row.append(reader.place + distance)
    return tuple(row), width


# The rows, the places and the widths that stand in the bits.
def read_back(bits, book):
    reader, rows, begins, widths = Reader(bits, book), [], [], []
    while reader.place < len(bits):
        begins.append(reader.place)
        row, width = row_read(reader)
        rows.append(row)
        widths.append(width)
    places = begins + [len(bits)]
    program = [row[:-1] + (places.index(row[-1]),) if "g" in PARTS[row[0]] else row for row in rows]
    return tuple(program), tuple(begins), tuple(widths)


def row_by_chance(chance, rows):
    word = chance.choice(WORDS)
    parts = {"b": lambda: chance.choice(BOXES), "n": lambda: chance.choice((0, 1, chance.randint(0, 65535))),
             "g": lambda: chance.randint(0, rows)}
    return (word,) + tuple([parts[kind]() for kind in PARTS[word]])


def program_by_chance(chance, rows):
    return tuple([row_by_chance(chance, rows) for row in range(rows)])


class BookTest(unittest.TestCase):
    def assert_book(self, program, counts):
        book = book_of(program, counts)
        self.assertIs(type(book), tuple)
        self.assertEqual([len(lengths) for lengths in book], [9, 17, 8])
        for lengths, counted in zip(book, comes(program, counts)):
            self.assertIs(type(lengths), tuple)
            self.assertTrue(all([type(length) is int and 1 <= length <= 12 for length in lengths]), lengths)
            self.assertTrue(fits(lengths), lengths)
            self.assertEqual(cost(counted, lengths), cost(counted, least_lengths(tuple(counted), 12)))
        return book

    def test_ordinary(self):
        program = read_program("put a 5\nput b 6\nadd a b\nadd a a\nadd a c\ntell a\nhalt")
        words, classes, boxes = self.assert_book(program, (1, 1, 9, 9, 9, 2, 1))
        self.assertEqual(words[1], 1)
        self.assertEqual(classes[3], 1)
        self.assertEqual(boxes[0], 1)

    def test_a_program_of_no_rows(self):
        self.assert_book((), ())

    def test_counts_of_0(self):
        program = read_program("put a 5\nadd a b\njump 0")
        self.assert_book(program, (0, 0, 0))
        self.assertEqual(self.assert_book(program, (0, 0, 1))[0][6], 1)
        self.assertEqual(self.assert_book(program, (0, 1, 0))[0][1], 1)

    def test_each_word(self):
        rows = (("put", "a", 3), ("add", "a", "b"), ("sub", "a", "b"), ("copy", "a", "b"), ("tell", "a"), ("hear", "a"),
                ("jump", 0), ("zero", "a", 0), ("halt",))
        for number in range(9):
            counts = tuple([7 if place == number else 0 for place in range(9)])
            words = self.assert_book(rows, counts)[0]
            self.assertEqual(words[number], 1)
            self.assertEqual(sorted(words)[1] > 1, True)

    def test_each_box_in_each_place(self):
        for number, box in enumerate(BOXES):
            for row in (("put", box, 3), ("add", box, box), ("tell", box), ("hear", box), ("zero", box, 1)):
                self.assertEqual(self.assert_book((row,), (1,))[2][number], 1, row)
        # The second box counts as much as the first, the same one twice.
        self.assertEqual(self.assert_book((("sub", "a", "b"), ("copy", "c", "b")), (3, 3))[2][1], 1)
        program = (("add", "a", "a"), ("tell", "b"), ("tell", "c"), ("tell", "c"))
        self.assertEqual(self.assert_book(program, (5, 9, 4, 4))[2][0], 1)

    def test_each_class_by_its_least_and_greatest(self):
        for figures in range(17):
            least = 0 if figures == 0 else 2 ** (figures - 1)
            greatest = 0 if figures == 0 else 2 ** figures - 1
            for number in (least, greatest):
                classes = self.assert_book((("put", "a", number),), (1,))[1]
                self.assertEqual(classes[figures], 1, number)

    def test_goals_have_no_class(self):
        program = (("put", "a", 0),) + (("jump", 4),) * 3
        self.assertEqual(self.assert_book(program, (1, 100, 100, 100))[1][0], 1)

    def test_no_length_above_12(self):
        rows = [("put", "a", 2 ** number - 1) for number in range(17)]
        counts = tuple([2 ** number for number in range(17)])
        self.assertGreater(max(least_lengths(counts, 40)), 12)
        classes = self.assert_book(tuple(rows), counts)[1]
        self.assertEqual(max(classes), 12)

    def test_by_chance(self):
        chance = random.Random(67)
        for number in range(40):
            program = program_by_chance(chance, chance.randint(0, 60))
            most = chance.choice((1, 5, 10 ** 12 - 1))
            self.assert_book(program, tuple([chance.randint(0, most) for row in program]))

    def test_the_same_asked_again(self):
        program, counts = read_program("put a 5\nadd a b\njump 0"), (1, 1, 1)
        first = book_of(program, counts)
        book_of((("halt",),), (8,))
        self.assertEqual(book_of(program, counts), first)

    def test_by_the_names_of_the_arguments(self):
        self.assertEqual(book_of(program=(), counts=()), book_of((), ()))


class PackTest(unittest.TestCase):
    def assert_packed(self, program, book):
        told = pack_rows(program, book)
        self.assertIs(type(told), tuple)
        bits, places = told
        self.assertIs(type(bits), str)
        self.assertIs(type(places), tuple)
        rows, begins, widths = read_back(bits, book)
        self.assertEqual(rows, program)
        self.assertEqual(places, begins)
        parts = [{None: 0, 0: 5, 1: 10, 2: 18}[width] for width in widths]
        ends = places[1:] + (len(bits),)
        sizes = tuple([end - begin - part for begin, end, part in zip(places, ends, parts)])
        goals = tuple([row[-1] if row[0] in ("jump", "zero") else None for row in program])
        self.assertEqual(widths, least_widths(sizes, goals))
        return widths

    def assert_row(self, text, bits):
        self.assertEqual(pack_rows(read_program(text), EQUAL), (bits.replace(" ", ""), (0,)), text)

    def test_a_program_of_no_rows(self):
        self.assertEqual(pack_rows((), EQUAL), ("", ()))

    def test_each_of_the_nine_words(self):
        self.assert_row("put a 5", "0000 000 00011 01")
        self.assert_row("add b c", "0001 001 010")
        self.assert_row("sub d e", "0010 011 100")
        self.assert_row("copy f g", "0011 101 110")
        self.assert_row("tell h", "0100 111")
        self.assert_row("hear a", "0101 000")
        self.assert_row("jump 1", "0110 0 0000")
        self.assert_row("zero c 1", "0111 010 0 0000")
        self.assert_row("halt", "1000")

    def test_numbers(self):
        self.assert_row("put a 0", "0000 000 00000")
        self.assert_row("put a 1", "0000 000 00001")
        self.assert_row("put a 2", "0000 000 00010 0")
        self.assert_row("put a 3", "0000 000 00010 1")
        self.assert_row("put a 65535", "0000 000 10000 " + "1" * 15)
        self.assert_row("put a 32768", "0000 000 10000 " + "0" * 15)
        self.assert_row("put a 32767", "0000 000 01111 " + "1" * 14)
        for figures in range(1, 17):
            ahead = "0000 001 " + format(figures, "05b")
            self.assert_row("put b " + str(2 ** (figures - 1)), ahead + "0" * (figures - 1))
            self.assert_row("put b " + str(2 ** figures - 1), ahead + "1" * (figures - 1))

    def test_a_jump_to_itself(self):
        # 7 bits of word and box and 5 of the jump are too many for 4 bits.
        self.assert_row("zero c 0", "0111 010 10 11101111")
        # 4 bits of the word, 10 of the jump: 14 back.
        self.assert_row("jump 0", "0110 10 11110010")
        short = ((4, 4, 4, 4, 4, 4, 3, 4, 4), EQUAL[1], EQUAL[2])
        self.assertEqual(pack_rows((("jump", 0),), short), ("000" + "0" + "1000", (0,)))

    def test_places(self):
        program = read_program("hear a\nput b 1\nzero a 6\nsub a b\ntell a\njump 2\nhalt")
        bits, places = pack_rows(program, EQUAL)
        self.assertEqual(places, (0, 7, 19, 36, 46, 53, 67))
        self.assertEqual(bits, "0101000" + "000000100001" + "0111000" + "10" + "00011111" + "0010000001" + "0100000"
                         + "0110" + "10" + "11010000" + "1000")
        self.assertEqual(self.assert_packed(program, EQUAL), (None, None, 1, None, None, 1, None))

    def test_jumps_of_each_width_forwards_and_back(self):
        for halts, width in ((1, 0), (2, 1), (31, 1), (32, 2), (59, 2)):
            rows = halts + 1
            filled = (("halt",),) * halts
            forwards = (("jump", rows),) + filled
            self.assertEqual(self.assert_packed(forwards, EQUAL)[0], width, halts)
            head = ("0", "10", "11")[width]
            bits = pack_rows(forwards, EQUAL)[0]
            self.assertTrue(bits.startswith("0110" + head + format(4 * halts, "0" + str(BITS[width]) + "b")))
        for halts, width in ((0, 1), (1, 1), (27, 1), (28, 2), (59, 2)):
            back = (("halt",),) * halts + (("zero", "a", 0),)
            self.assertEqual(self.assert_packed(back, EQUAL)[-1], width, halts)
            far = 4 * halts + 7 + (10 if width == 1 else 18)
            ending = ("10", "11")[width - 1] + format(2 ** BITS[width] - far, "b")
            self.assertTrue(pack_rows(back, EQUAL)[0].endswith("0111000" + ending))

    def test_a_jump_to_a_row_between(self):
        program = read_program("tell a\njump 3\nhalt\nhear b\nhalt")
        self.assertEqual(pack_rows(program, EQUAL),
                         ("0100000" + "0110" + "0" + "0100" + "1000" + "0101001" + "1000", (0, 7, 16, 20, 27)))

    def test_a_greater_width_makes_another_one_greater(self):
        # Row 0 goes over row 1, whose jump is narrow or not by what it goes over.
        short = ((4, 4, 4, 4, 4, 4, 2, 3, 4), EQUAL[1], EQUAL[2])
        self.assertEqual(self.assert_packed(read_program("jump 2\njump 3\ntell a"), short), (0, 0, None))
        self.assertEqual(self.assert_packed(read_program("jump 2\njump 3\nadd a a"), short), (1, 1, None))

    def test_by_unequal_lengths(self):
        book = ((1, 2, 3, 4, 5, 6, 7, 8, 8), tuple(range(1, 17)) + (16,), (7, 7, 6, 5, 4, 3, 2, 1))
        program = read_program("put h 65535\nadd g a\nhalt\nzero b 0")
        bits, places = pack_rows(program, book)
        self.assertEqual(places, (0, 33, 44, 52))
        self.assertEqual(bits, "0" + "0" + "1" * 16 + "1" * 15 + "10" + "10" + "1111110" + "11111111"
                         + "11111110" + "1111111" + "10" + format(256 - 77, "b"))
        self.assert_packed(program, book)

    def test_lengths_that_leave_bits_unused(self):
        book = ((20,) * 9, (20,) * 17, (20,) * 8)
        self.assertEqual(pack_rows((("tell", "b"),), book), ("0" * 17 + "100" + "0" * 19 + "1", (0,)))
        self.assert_packed(tuple([("zero", "h", 59 - row) for row in range(60)]), book)

    def test_by_chance(self):
        chance = random.Random(71)
        seen = {}
        for number in range(120):
            program = program_by_chance(chance, chance.choice((0, 1, 2, 5, 20, 60)))
            counts = tuple([chance.choice((0, 1, chance.randint(0, 10 ** 12 - 1))) for row in program])
            for book in (EQUAL, book_of(program, counts)):
                for width in self.assert_packed(program, book):
                    seen[width] = seen.get(width, 0) + 1
        self.assertGreater(min([seen[width] for width in (None, 0, 1, 2)]), 30)

    def test_what_comes_often_is_short(self):
        program = read_program("put a 5\nadd a b\nadd a b\nadd a b\nsub a a\ntell a\nhalt")
        fitted = pack_rows(program, book_of(program, (1,) * 7))[0]
        self.assertLess(len(fitted), len(pack_rows(program, EQUAL)[0]))
        self.assertEqual(len(fitted), sum([cost(counted, lengths) for counted, lengths
                                           in zip(comes(program, (1,) * 7), book_of(program, (1,) * 7))]) + 2)

    def test_60_rows_quickly(self):
        begun = time.perf_counter()
        chance = random.Random(73)
        greatest = ((20,) * 9, (20,) * 17, (20,) * 8)
        programs = [program_by_chance(chance, 60) for number in range(10)]
        programs.append(tuple([("zero", "a", 60 - row) for row in range(60)]))
        programs.append((("put", "h", 65535),) * 59 + (("jump", 0),))
        programs.append((("jump", 60),) + (("put", "h", 65535),) * 59)
        for program in programs:
            for book in (EQUAL, greatest, book_of(program, (1,) * 60)):
                self.assert_packed(program, book)
        self.assertLess(time.perf_counter() - begun, 10)

    def test_the_same_asked_again(self):
        program = read_program("jump 2\nput a 9\nzero a 0")
        first = pack_rows(program, EQUAL)
        pack_rows((("halt",),), ((8,) * 9, EQUAL[1], EQUAL[2]))
        self.assertEqual(pack_rows(program, EQUAL), first)

    def test_by_the_names_of_the_arguments(self):
        self.assertEqual(pack_rows(program=(("halt",),), book=EQUAL), ("1000", (0,)))


if __name__ == "__main__":
    unittest.main()
