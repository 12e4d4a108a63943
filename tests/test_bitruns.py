import random
import time
import unittest

from shortrows.machine.runs import run_rows
from shortrows.machine.texts import read_program
from shortrows.packing.bitruns import run_bits
from shortrows.packing.packed import book_of, pack_rows
from test_packed import BITS, BOXES, EQUAL, BitsEnd, Reader, program_by_chance, row_read
from test_runs import ZEROS, boxes_with, carried_out_another_way, some_row
from test_unpacked import BOOKS, FULL, SHORT, changed_at, plain

HALT, TELL, SELF = "1000", "0100 000", "0110 10 11110010"


# The document's rule anew.
def run_anew(bits, book, given, most):
    told, boxes, heard, read, done, place = [], [0] * 8, list(given), 0, 0, 0
    while place != len(bits):
        reader, how = Reader(bits, book, place), "bad"
        if place < 0 or place > len(bits):
            break
        try:
            row = row_read(reader)[0]
        except BitsEnd:
            break
        if done == most:
            how = "more"
            break
        done += 1
        read += reader.place - place
        follows = carried_out_another_way(row, boxes, told, heard)
        place = {"halt": len(bits), None: reader.place}.get(follows, follows)
    else:
        how = "halt"
    return (how, tuple(told), read, tuple(boxes))


def jump(far, width=1):
    return "0110" + ("0", "10", "11")[width] + format(far % 2 ** BITS[width], "0" + str(BITS[width]) + "b")


class RunBitsTest(unittest.TestCase):
    def assert_run(self, bits, how, told=(), read=0, boxes=ZEROS, given=(), most=400, book=EQUAL):
        self.assertEqual(run_bits(plain(bits), book, given, most), (how, told, read, boxes), bits)

    def test_bits_without_signs(self):
        for most in (0, 1, 400):
            for book in BOOKS:
                self.assert_run("", "halt", given=(3,), most=most, book=book)

    def test_each_of_the_nine_words(self):
        self.assert_run("0000 000 00011 01", "halt", (), 14, boxes_with(a=5))
        self.assert_run("0000 001 00001 0001 010 001 0001 010 001", "halt", (), 32, boxes_with(b=1, c=2))
        self.assert_run("0000 001 00001 0010 010 001", "halt", (), 22, boxes_with(b=1, c=65535))
        self.assert_run("0000 001 00001 0011 010 001", "halt", (), 22, boxes_with(b=1, c=1))
        self.assert_run("0000 111 00010 1 0100 111 0100 000", "halt", (3, 0), 27, boxes_with(h=3))
        self.assert_run("0101 000 0101 001", "halt", (), 14, boxes_with(a=7, b=8), (7, 8, 9))
        self.assert_run("0110 0 0111" + TELL + TELL, "halt", (0,), 16)
        self.assert_run("0111 000 0 0111" + TELL + TELL, "halt", (0,), 19)
        self.assert_run("0000 000 00001 0111 000 0 0111" + TELL + TELL, "halt", (1, 1), 38, boxes_with(a=1))
        self.assert_run(TELL + HALT + TELL, "halt", (0,), 11)

    def test_given_numbers_beyond_and_none_left(self):
        given = (-1, 65536, 65537, 65535, -65537, 10 ** 30)
        bits = "0101 000 0100 000" * 7
        self.assert_run(bits, "halt", (65535, 0, 1, 65535, 65535, 10 ** 30 % 65536, 0), 98, ZEROS, given)
        self.assert_run("0000 000 00001 0101 000", "halt", (), 19)

    def test_a_jump_below_0(self):
        self.assert_run(TELL + jump(-22), "bad", (0,), 21)
        self.assert_run(TELL + jump(-128), "bad", (0,), 21)
        self.assert_run(TELL + jump(-32768, 2), "bad", (0,), 29)
        # From the end on a row would stand there.
        self.assert_run(jump(-18) + HALT, "bad", (), 14)
        self.assert_run(jump(-18) + HALT, "bad", (), 14, most=1)
        self.assert_run("110 10 11110010", "bad", (), 13, book=SHORT)

    def test_a_jump_to_0(self):
        self.assert_run(SELF, "more", (), 14 * 400)
        self.assert_run(TELL + jump(-21), "more", (0, 0, 0), 7 * 3 + 14 * 2, most=5)

    def test_a_jump_into_a_row(self):
        # Behind the word of a put row, where a halt row can be read.
        self.assert_run("0110 0 0100" + "0000 100 00000", "halt", (), 13)
        # Into itself, where none can be.
        self.assert_run("0110 0 1111", "bad", (), 9)
        self.assert_run("0110 0 1000", "bad", (), 9)
        self.assert_run("0110 10 00000000 0110 0 1000", "bad", (), 14 + 9)
        # Over one bit that stands in no row.
        self.assert_run("0110 0 0001" + "0" + TELL + HALT, "halt", (0,), 9 + 7 + 4)

    def test_a_row_that_ends_with_another_one(self):
        # The last figures of the number are a tell row.
        number = "0000 000 10000" + "00000000" + TELL
        self.assert_run("0000 000 00000" + number + "0110 10" + format(256 - 21, "08b"), "more",
                        (32800,), 12 + 27 + 14 + 7, boxes_with(a=32800), most=4)

    def test_just_behind_all_and_one_bit_beyond(self):
        self.assert_run("0110 0 0000", "halt", (), 9)
        self.assert_run("0110 0 0000", "halt", (), 9, most=1)
        self.assert_run("0110 0 0001", "bad", (), 9)
        self.assert_run("0110 0 0001", "bad", (), 9, most=1)
        self.assert_run("0110 0 0100 1000", "halt", (), 9)
        self.assert_run("0110 0 0101 1000", "bad", (), 9)
        self.assert_run("0110 0 0011 1000", "bad", (), 9)
        self.assert_run(jump(127), "bad", (), 14)
        self.assert_run(jump(32767, 2), "bad", (), 22)

    def test_a_jump_that_is_not_gone_may_go_anywhere(self):
        self.assert_run("0000 000 00001 0111 000 0 0111", "halt", (), 24, boxes_with(a=1))
        self.assert_run("0000 000 00001 0111 000 10 10000000" + TELL, "halt", (1,), 36, boxes_with(a=1))
        self.assert_run("0111 000 0 0111", "bad", (), 12)

    def test_what_is_never_come_to_may_be_anything(self):
        self.assert_run(HALT + "1111", "halt", (), 4)
        self.assert_run("0110 0 0011 111" + TELL, "halt", (0,), 16)

    def test_bits_cut_in_the_last_row(self):
        last = plain("0000 000 00011 01")
        for end in range(1, len(last)):
            self.assert_run(TELL + last[:end], "bad", (0,), 7)
            self.assert_run(last[:end], "bad")
        self.assert_run(TELL + "0110 11 000000000000000", "bad", (0,), 7)
        self.assert_run(TELL + "100", "bad", (0,), 7)

    def test_bits_that_no_word_begins(self):
        self.assert_run("1001", "bad")
        self.assert_run(TELL + "0000 000 10001" + "0" * 30, "bad", (0,), 7)
        boxes = (EQUAL[0], EQUAL[1], (4,) * 8)
        self.assert_run("0100 0000 0100 1000", "bad", (0,), 8, book=boxes)

    def test_bad_against_more(self):
        # As many rows as let are carried out, and no row can be read next: bad.
        self.assert_run(TELL + "1001", "bad", (0,), 7, most=1)
        self.assert_run(TELL + HALT, "more", (0,), 7, most=1)
        self.assert_run(TELL + "100", "bad", (0,), 7, most=1)
        self.assert_run("1001", "bad", most=0)
        self.assert_run("100", "bad", most=0)
        self.assert_run("1000", "more", most=0)
        self.assert_run(SELF, "more", most=0)
        self.assert_run(jump(-15), "bad", (), 14, most=1)
        self.assert_run(jump(-15), "more", most=0)
        self.assert_run(jump(-14), "more", (), 14, most=1)
        self.assert_run("0110 0 0001", "bad", (), 9, most=1)
        self.assert_run(TELL, "halt", (0,), 7, most=1)

    def test_halt_as_the_last_row_let(self):
        self.assert_run(HALT, "halt", (), 4, most=1)
        self.assert_run(TELL + HALT, "halt", (0,), 11, most=2)
        self.assert_run(TELL + HALT + TELL, "halt", (0,), 11, most=2)
        self.assert_run(HALT + "1001", "halt", (), 4, most=1)

    def test_read_of_rows_that_are_carried_out_several_times(self):
        program = read_program("hear a\nput b 1\nzero a 6\nsub a b\ntell a\njump 2\nhalt")
        bits, places = pack_rows(program, EQUAL)
        read = 7 + 12 + 4 * 17 + 3 * 10 + 3 * 7 + 3 * 14 + 4
        self.assert_run(bits, "halt", (2, 1, 0), read, boxes_with(b=1), (3,))

    def test_packed_programs_against_run_rows(self):
        chance = random.Random(101)
        hows = []
        for number in range(400):
            size = chance.choice((0, 1, 2, 5, 12, 60))
            rows = some_row if number % 2 else None
            program = tuple([rows(chance, size) for row in range(size)]) if rows else program_by_chance(chance, size)
            given = tuple([chance.randint(-70000, 140000) for turn in range(chance.randint(0, 6))])
            most = chance.choice((0, 1, 5, 50, 400))
            how, told, turns, boxes = run_rows(program, given, most)
            for book in (EQUAL, FULL, book_of(program, turns)):
                bits, places = pack_rows(program, book)
                ends = places[1:] + (len(bits),)
                read = sum([turn * (end - place) for turn, place, end in zip(turns, places, ends)])
                self.assertEqual(run_bits(bits, book, given, most), (how, told, read, boxes))
            hows.append(how)
        self.assertGreater(min(hows.count("halt"), hows.count("more")), 80)

    def test_any_bits_against_the_rule_anew(self):
        chance = random.Random(103)
        hows = []
        for number in range(2500):
            bits = "".join([chance.choice("01") for place in range(chance.choice((1, 5, 20, 60, 200)))])
            hows.append(self.assert_as_told(chance, bits, (FULL, SHORT, EQUAL)[number % 3]))
        self.assertGreater(min([hows.count(how) for how in ("halt", "bad", "more")]), 60)

    def test_packed_programs_cut_and_changed(self):
        chance = random.Random(107)
        hows = []
        for number in range(40):
            program = program_by_chance(chance, chance.choice((1, 3, 6)))
            book = BOOKS[number % len(BOOKS)]
            bits = pack_rows(program, book)[0]
            for place in range(len(bits)):
                for other in changed_at(bits, place, chance):
                    hows.append(self.assert_as_told(chance, other, book))
        self.assertGreater(min([hows.count(how) for how in ("halt", "bad", "more")]), 60)

    def assert_as_told(self, chance, bits, book):
        given = tuple([chance.randint(-2, 70000) for turn in range(chance.randint(0, 3))])
        most = chance.choice((0, 1, 2, 3, 40))
        told = run_anew(bits, book, given, most)
        self.assertEqual(run_bits(bits, book, given, most), told, (bits, book, given, most))
        return told[0]

    def test_a_run_of_400_rows_in_6000_bits_quickly(self):
        begun = time.perf_counter()
        self.assert_run(HALT * 1500, "halt", (), 4)
        self.assert_run(TELL * 857, "more", (0,) * 400, 2800)
        self.assert_run("1" * 6000, "bad")
        self.assert_run("0101 000" * 400, "halt", (), 2800, given=(0,) * 40)
        self.assertLess(time.perf_counter() - begun, 5)

    def test_kinds(self):
        answer = run_bits(plain("0101 000" + TELL), EQUAL, (7,), 400)
        self.assertEqual([type(part) for part in answer], [str, tuple, int, tuple])
        self.assertIs(type(answer), tuple)
        self.assertEqual(len(answer[3]), len(BOXES))

    def test_the_same_asked_again(self):
        bits = plain("0101 000 0100 000 0101 001")
        first = run_bits(bits, EQUAL, (1, 2), 9)
        run_bits(bits, EQUAL, (5,), 1)
        self.assertEqual(run_bits(bits, EQUAL, (1, 2), 9), first)

    def test_by_the_names_of_the_arguments(self):
        self.assertEqual(run_bits(bits=HALT, book=EQUAL, given=(), most=1), ("halt", (), 4, ZEROS))


if __name__ == "__main__":
    unittest.main()
