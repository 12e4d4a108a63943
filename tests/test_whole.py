import random
import time
import unittest

from shortrows.errors import NoAsk, NoBits, NoRow
from shortrows.machine.runs import run_rows
from shortrows.machine.texts import program_shown, read_program
from shortrows.packing.packed import book_of, pack_rows
from shortrows.packing.unpacked import read_rows
from shortrows.whole import Desk
from test_kept import Held
from test_packed import EQUAL, program_by_chance, row_by_chance
from test_unpacked import plain

LOOP = "hear a\nput b 1\nzero a 6\nsub a b\ntell a\njump 2\nhalt"
EQUAL_BOOK = ["4 4 4 4 4 4 4 4 4", "5 5 5 5 5 5 5 5 5 5 5 5 5 5 5 5 5", "3 3 3 3 3 3 3 3"]

# What makes of any right line a wrong one.
SPOILT = (" {}", "{} ", "\n{}", "{}\n", "{}\t", "\t{}", "{}  ", "{}\r", "{}\x00", "{}.", "{}\n\n", "{} x", "{}x", "x{}")


def numbers(parts):
    return " ".join([str(number) for number in parts])


def desk_of(text):
    desk = Desk()
    desk.ask("read " + pack_rows(read_program(text), EQUAL)[0])
    return desk


def state_of(desk):
    return [desk.ask(line) for line in ("rows", "bits", "places", "book")]


class DeskTest(unittest.TestCase):
    def assert_state(self, desk, program, book):
        if isinstance(program, str):
            program = read_program(program)
        bits, places = pack_rows(program, book)
        self.assertEqual(desk.ask("rows"), program_shown(program).split("\n") if program else [])
        self.assertEqual(desk.ask("bits"), [bits])
        self.assertEqual(desk.ask("places"), [numbers(places)])
        self.assertEqual(desk.ask("book"), [numbers(lengths) for lengths in book])

    def assert_refused(self, desk, line, refusal):
        ahead = state_of(desk)
        with self.assertRaises(refusal, msg=line) as caught:
            desk.ask(line)
        self.assertIs(type(caught.exception), refusal, line)
        self.assertEqual(state_of(desk), ahead, line)
        return caught.exception

    def assert_asked(self, desk, lines):
        for line in lines:
            self.assertEqual(desk.ask(line), [], line)

    def test_at_first(self):
        desk = Desk()
        self.assertEqual(desk.ask("rows"), [])
        self.assertEqual(desk.ask("bits"), [""])
        self.assertEqual(desk.ask("places"), [""])
        self.assertEqual(desk.ask("book"), EQUAL_BOOK)
        self.assertEqual(desk.ask("run 5"), ["halt"])
        self.assert_state(desk, (), EQUAL)

    def test_put(self):
        desk = Desk()
        self.assert_asked(desk, ["put 0 halt", "put 0 tell a", "put 1 put b 65535", "put 3 jump 0", "put 4 zero h 5"])
        self.assert_state(desk, "tell a\nput b 65535\nhalt\njump 0\nzero h 5", EQUAL)

    def test_put_each_of_the_nine_words(self):
        rows = ("put a 0", "add a b", "sub c d", "copy e f", "tell g", "hear h", "jump 0", "zero a 1", "halt")
        for row in rows:
            desk = Desk()
            self.assert_asked(desk, ["put 0 " + row])
            self.assert_state(desk, row, EQUAL)

    def test_put_moves_goals(self):
        desk = desk_of("jump 1\nzero a 0\njump 3")
        self.assert_asked(desk, ["put 1 jump 1"])
        self.assert_state(desk, "jump 2\njump 1\nzero a 0\njump 4", EQUAL)

    def test_take(self):
        desk = desk_of("jump 2\ntell a\nhalt\njump 1")
        self.assert_asked(desk, ["take 2"])
        self.assert_state(desk, "jump 2\ntell a\njump 1", EQUAL)
        self.assert_asked(desk, ["take 0", "take 1", "take 0"])
        self.assert_state(desk, (), EQUAL)

    def test_rows_bits_places(self):
        desk = desk_of(LOOP)
        self.assertEqual(desk.ask("rows"), LOOP.split("\n"))
        self.assertEqual(desk.ask("places"), ["0 7 19 36 46 53 67"])
        self.assertEqual(desk.ask("bits"), [plain("0101000 000000100001 0111000 10 00011111 0010000001 0100000"
                                                  " 0110 10 11010000 1000")])
        self.assertEqual(desk_of("halt").ask("places"), ["0"])

    def test_run(self):
        desk = desk_of(LOOP)
        self.assertEqual(desk.ask("run 400 3"), ["halt", "2", "1", "0"])
        self.assertEqual(desk.ask("run 10 3"), ["more", "2", "1"])
        self.assertEqual(desk.ask("run 0 3"), ["more"])
        self.assertEqual(desk.ask("run 0"), ["more"])
        self.assertEqual(desk.ask("run 400"), ["halt"])
        self.assertEqual(desk.ask("run 400 1 2 3"), ["halt", "0"])
        self.assert_state(desk, LOOP, EQUAL)
        hears = desk_of("hear a\ntell a\nhear a\ntell a\nhear a\ntell a")
        self.assertEqual(hears.ask("run 6 65535 65536"), ["halt", "65535", "0", "0"])
        self.assertEqual(hears.ask("run 5 65535 65536"), ["more", "65535", "0"])

    def test_run_of_no_rows(self):
        for line in ("run 0", "run 1", "run 400 1 2"):
            self.assertEqual(Desk().ask(line), ["halt"])

    def test_a_run_just_with_its_bound(self):
        self.assertEqual(desk_of("halt").ask("run 0"), ["more"])
        self.assertEqual(desk_of("halt").ask("run 1"), ["halt"])
        self.assertEqual(desk_of("tell a\ntell a").ask("run 1"), ["more", "0"])
        self.assertEqual(desk_of("tell a\ntell a").ask("run 2"), ["halt", "0", "0"])

    def test_given_numbers_of_many_figures(self):
        desk = desk_of("hear a\ntell a\njump 0")
        for number in (10 ** 15 + 7, 10 ** 16 - 1, 10 ** 16 + 5, 10 ** 17 + 65537, 10 ** 30 + 12345, 3 * 10 ** 40 + 1,
                       2 ** 61, 7 ** 300, 99999999999999999999):
            told = ["more", str(number % 65536), str((number + 1) % 65536), "0"]
            self.assertEqual(desk.ask("run 9 " + str(number) + " " + str(number + 1)), told, number)
        self.assertEqual(desk.ask("run 3 " + "9" * 3990), ["more", str((10 ** 3990 - 1) % 65536)])
        self.assertEqual(desk.ask("run 3 1" + "0" * 3980), ["more", "0"])
        # A text somewhat longer than is promised, and than int reads.
        self.assertEqual(desk.ask("run 3 1" + "0" * 5000 + "12"), ["more", "12"])

    def test_fit_by_given_numbers_of_many_figures(self):
        text = "hear a\nzero a 4\ntell a\njump 0\nadd b c"
        for figures in ("65536", "1" + "0" * 3000, "65537", "9" * 3000):
            desk, program = desk_of(text), read_program(text)
            self.assert_asked(desk, ["fit 400 " + figures])
            given = 0 if figures[0] == "1" or figures == "65536" else 1
            self.assert_state(desk, program, book_of(program, run_rows(program, (given,), 400)[2]))

    def test_forty_given_numbers(self):
        desk = desk_of("hear a\nzero a 4\ntell a\njump 0")
        given = [str(number) for number in range(1, 41)]
        self.assertEqual(desk.ask("run 400 " + " ".join(given)), ["halt"] + given)

    def test_fit(self):
        text = "put a 5\nadd a b\nadd a b\nadd a b\nsub a a\ntell a\nhalt"
        desk, program = desk_of(text), read_program(text)
        self.assert_asked(desk, ["fit"])
        book = book_of(program, (1,) * 7)
        self.assertNotEqual(book, EQUAL)
        self.assert_state(desk, program, book)
        self.assert_asked(desk, ["fit"])
        self.assert_state(desk, program, book)

    def test_fit_by_a_run(self):
        program = read_program(LOOP)
        for line, given, most in (("fit 400 3", (3,), 400), ("fit 400 9", (9,), 400), ("fit 3 9", (9,), 3),
                                  ("fit 0", (), 0), ("fit 0 5", (5,), 0), ("fit 400", (), 400),
                                  ("fit 17 4 5 6", (4, 5, 6), 17)):
            desk = desk_of(LOOP)
            self.assert_asked(desk, [line])
            self.assert_state(desk, program, book_of(program, run_rows(program, given, most)[2]))
        often, once = desk_of(LOOP), desk_of(LOOP)
        self.assert_asked(often, ["fit 400 40"])
        self.assert_asked(once, ["fit"])
        self.assertNotEqual(often.ask("book"), once.ask("book"))

    def test_fit_of_no_rows(self):
        for line in ("fit", "fit 0", "fit 400 1 2 3"):
            desk = Desk()
            self.assert_asked(desk, [line])
            self.assert_state(desk, (), book_of((), ()))

    def test_a_fitted_book_stays_under_changes(self):
        desk, program = desk_of(LOOP), read_program(LOOP)
        self.assert_asked(desk, ["fit", "put 0 copy c d", "take 7"])
        book = book_of(program, (1,) * 7)
        self.assert_state(desk, "copy c d\nhear a\nput b 1\nzero a 7\nsub a b\ntell a\njump 3", book)
        self.assert_asked(desk, ["take 0"] * 7)
        self.assert_state(desk, (), book)

    def test_read_by_the_book_at_hand(self):
        desk = Desk()
        self.assert_asked(desk, ["read 1000"])
        self.assert_state(desk, "halt", EQUAL)
        self.assert_asked(desk, ["read 01000000100111"])
        self.assert_state(desk, "tell a\ntell h", EQUAL)

    def test_read_behind_a_fit(self):
        desk, program = desk_of(LOOP), read_program(LOOP)
        self.assert_asked(desk, ["fit 400 5"])
        book = book_of(program, run_rows(program, (5,), 400)[2])
        other = read_program("put c 9\nzero c 3\njump 0\ntell h")
        self.assert_asked(desk, ["read " + pack_rows(other, book)[0]])
        self.assert_state(desk, other, book)
        bits = pack_rows(program, EQUAL)[0]
        try:
            told = read_rows(bits, book)
        except NoBits as refusal:
            self.assertEqual(self.assert_refused(desk, "read " + bits, NoBits).place, refusal.place)
        else:
            self.assert_asked(desk, ["read " + bits])
            self.assert_state(desk, told, book)

    def test_read_with_widths_that_are_not_the_least(self):
        desk = Desk()
        self.assert_asked(desk, ["read " + plain("0110 11 0000000000000100 1000")])
        self.assert_state(desk, "jump 2\nhalt", EQUAL)
        self.assertEqual(desk.ask("bits"), [plain("0110 0 0100 1000")])

    def test_read_what_it_told(self):
        chance = random.Random(127)
        for number in range(20):
            desk, program = Desk(), program_by_chance(chance, 60)
            self.assert_asked(desk, ["read " + pack_rows(program, EQUAL)[0]])
            self.assert_state(desk, program, EQUAL)
            self.assert_asked(desk, ["fit"])
            told = state_of(desk)
            self.assert_asked(desk, ["read " + told[1][0]])
            self.assertEqual(state_of(desk), told)

    def test_read_refused_with_no_bits(self):
        desk = desk_of(LOOP)
        self.assertEqual(self.assert_refused(desk, "read 1", NoBits).place, 0)
        self.assertEqual(self.assert_refused(desk, "read 10001001", NoBits).place, 4)
        self.assertEqual(self.assert_refused(desk, "read 011000001", NoBits).place, 0)
        self.assertEqual(self.assert_refused(desk, "read 1000011000001", NoBits).place, 4)

    def test_read_refused_with_no_ask(self):
        for desk in (Desk(), desk_of(LOOP)):
            for line in ("read", "read ", "read  ", "read  1000", "read 1000 ", "read 1000 1000", "read 10 00",
                         "read 1002", "read 1000\n", "read \n1000", "read 1000\n1000", "read a", "read -1000",
                         "read +1", "read 1000.", "read 1_0", "read 0b1000", "Read 1000", "READ 1000", "read1000",
                         "read\n1000", " read 1000", "read 1000 x", "read 2", "read -", "read \n"):
                self.assert_refused(desk, line, NoAsk)

    def test_put_refused_with_no_ask(self):
        for desk in (Desk(), desk_of(LOOP)):
            for row in ("", " ", "halt ", " halt", "halt a", "Halt", "HALT", "halt\n", "\nhalt", "halt\nhalt", "stop",
                        "put", "put a", "put a ", "put a 65536", "put a -1", "put a +1", "put a 01", "put a 00",
                        "put a 1 ", "put a  1", "put  a 1", "put a 1 1", "put A 1", "put i 1", "put ab 1", "put a b",
                        "put a 1.0", "put a 1_0", "put a 99999999999999999999", "put a 1\n", "put a " + "9" * 3900,
                        "add a", "add a b c", "add a 1", "add a i", "sub a", "copy a", "tell", "tell 1", "tell a a",
                        "tell  a", "hear", "hear i", "jump", "jump a", "jump -1", "jump +1", "jump 00", "jump 01",
                        "jump 61", "jump 100", "jump 1000000000000", "jump 0 0", "jump 0 ", "zero a", "zero 0 a",
                        "zero a 61", "zero a -0", "zero a 0 0", "zero 0", "rows", "take 0", "put 0 halt"):
                self.assert_refused(desk, "put 0 " + row, NoAsk)
            for place in ("", "-1", "+0", "-0", "00", "01", "0.0", "0x0", "a", "0\n", "\n0", " 0", "0 ", "0_0", "1e1",
                          "halt", "0,", "N"):
                self.assert_refused(desk, "put " + place + " halt", NoAsk)
            for line in ("put", "put ", "put 0", "put 0 ", "put halt", "put halt 0", "Put 0 halt", "PUT 0 halt",
                         "put  0 halt", " put 0 halt", "put\n0 halt", "put 0\nhalt", "put0 halt", "put 0halt"):
                self.assert_refused(desk, line, NoAsk)

    def test_take_refused_with_no_ask(self):
        for desk in (Desk(), desk_of(LOOP)):
            for line in ("take", "take ", "take  ", "take  0", "take 0 ", " take 0", "take 0\n", "take\n0", "take 00",
                         "take 01", "take +0", "take -0", "take -1", "take 0 0", "take 0 1", "take a", "take halt",
                         "Take 0", "TAKE 0", "take0", "take 0.", "take 1_0", "take 0x1", "take \n"):
                self.assert_refused(desk, line, NoAsk)

    def test_run_and_fit_refused_with_no_ask(self):
        for desk in (Desk(), desk_of(LOOP)):
            for word in ("run", "fit"):
                for parts in (" ", "  ", "  1", " 1 ", " 01", " 00", " +1", " -1", " -0", " 401", " 1000", " 0400",
                              " 99999999999999999999", " " + "9" * 3990, " 1\n", " \n1", "\n1", " a", " 1.0", " 1_0",
                              " 1 01", " 1 00", " 1 -1", " 1 +1", " 1  2", " 1 2 ", " 1 2\n", " 1\n2", " 1 a",
                              " 1 2 3 x", " 1 2 3 04", " 1 -0", " 1 1_0", " 1 0x1", " 1 " + "0" * 3000,
                              " 1 " + "9" * 3000 + "x", " 1 0" + "9" * 3000, " 401 1", " 1 1,2", "1", " 1\t2"):
                    self.assert_refused(desk, word + parts, NoAsk)
            for line in ("run", "Run 1", "RUN 1", "run1", " run 1", "Fit", "FIT", " fit", "fit ", "fit1", "fit\n"):
                self.assert_refused(desk, line, NoAsk)

    def test_most_400_and_401(self):
        desk = desk_of("tell a\njump 0")
        self.assertEqual(desk.ask("run 400"), ["more"] + ["0"] * 200)
        self.assertEqual(desk.ask("run 399"), ["more"] + ["0"] * 200)
        self.assert_refused(desk, "run 401", NoAsk)
        self.assert_refused(desk, "fit 401", NoAsk)
        self.assert_refused(desk, "run 401 1 2", NoAsk)
        self.assert_asked(desk, ["fit 400", "fit 0"])

    def test_other_lines(self):
        for desk in (Desk(), desk_of(LOOP)):
            for line in ("", " ", "\n", "halt", "row", "Rows", "ROWS", "bit", "Bits", "place", "Places", "books",
                         "Book", "rows 0", "bits 0", "places 0", "book 0", "rows rows", "jump 0", "0", "put", "tell a",
                         "help", "rows\nbits", "kept", "change", "ask", "0 rows", "take put", "~", "x" * 4000):
                self.assert_refused(desk, line, NoAsk)

    def test_lines_that_are_almost_such(self):
        right = ("rows", "bits", "places", "book", "fit", "fit 3 4", "run 3", "run 3 4", "take 0", "put 0 halt",
                 "put 0 put a 1", "put 0 jump 1", "read 1000")
        for line in right:
            desk_of(LOOP).ask(line)
            for spoilt in SPOILT:
                self.assert_refused(desk_of(LOOP), spoilt.replace("{}", line), NoAsk)
            self.assert_refused(desk_of(LOOP), line.upper(), NoAsk)
            self.assert_refused(desk_of(LOOP), line[0].upper() + line[1:], NoAsk)
            self.assert_refused(desk_of(LOOP), line.replace(" ", "  ", 1) if " " in line else line + " ", NoAsk)
            self.assert_refused(desk_of(LOOP), line.replace(" ", "\n", 1) if " " in line else line + "\n", NoAsk)

    def test_put_and_take_refused_with_no_row(self):
        desk = Desk()
        for line in ("take 0", "take 1", "put 1 halt", "put 60 halt", "put 0 jump 2", "put 0 jump 60",
                     "put 0 zero a 60", "put 0 zero a 2"):
            self.assert_refused(desk, line, NoRow)
        desk = desk_of(LOOP)
        for line in ("take 7", "take 8", "take 60", "take 61", "take 1000000000", "put 8 halt", "put 61 halt",
                     "put 1000000000 halt", "put 0 jump 9", "put 7 jump 60", "put 0 zero a 9",
                     "take 100000000", "take 999999999", "take 1000000000000000000000", "take " + "1" * 3900,
                     "put " + "9" * 3900 + " halt", "take 1" + "0" * 3900, "put 1" + "0" * 5000 + " halt"):
            self.assert_refused(desk, line, NoRow)
        self.assert_asked(desk, ["put 7 jump 8", "put 0 jump 9"])

    def test_a_goal_of_60_and_61(self):
        desk = desk_of("\n".join(["halt"] * 59))
        self.assert_refused(desk, "put 0 jump 61", NoAsk)
        self.assert_refused(desk, "put 0 zero a 61", NoAsk)
        self.assert_asked(desk, ["put 0 jump 60"])
        self.assertEqual(desk.ask("rows")[0], "jump 60")
        desk = desk_of("\n".join(["halt"] * 58))
        self.assert_refused(desk, "put 0 jump 60", NoRow)
        self.assert_refused(desk, "put 0 jump 61", NoAsk)
        self.assert_asked(desk, ["put 58 zero a 59"])

    def test_the_61st_row(self):
        desk = desk_of("\n".join(["halt"] * 59))
        self.assert_asked(desk, ["put 59 tell a"])
        self.assertEqual(len(desk.ask("rows")), 60)
        for line in ("put 0 halt", "put 60 halt", "put 30 jump 0", "put 61 halt", "put 100 halt", "put 0 jump 60",
                     "put 0 jump 61"):
            self.assert_refused(desk, line, NoAsk)
        self.assert_refused(desk, "take 60", NoRow)
        self.assert_asked(desk, ["take 0", "put 0 hear a"])
        self.assert_refused(desk, "put 0 halt", NoAsk)

    def test_the_order_of_refusals(self):
        desk = desk_of(LOOP)
        for line in ("put 99 stop", "put 99 jump 61", "put 99 jump 60 ", "put 99 put a 65536", "take 99 ", "take 099",
                     "put 099 halt", "read 1001 ", "read 10012", "read 1001 1", "run 401 x"):
            self.assert_refused(desk, line, NoAsk)
        for line in ("put 99 halt", "put 99 jump 60", "put 0 jump 60", "take 99"):
            self.assert_refused(desk, line, NoRow)
        self.assert_refused(desk, "read 1001", NoBits)

    def test_told_lists_changed_by_the_asker_change_nothing(self):
        desk = desk_of(LOOP)
        ahead = state_of(desk)
        for line in ("rows", "bits", "places", "book", "run 400 3", "put 0 halt", "take 0"):
            told = desk.ask(line)
            self.assertIs(type(told), list)
            self.assertTrue(all([type(text) is str for text in told]))
            told.append("changed")
            told[0] = "changed"
        self.assertEqual(state_of(desk), ahead)
        self.assertEqual(desk.ask("run 400 3"), ["halt", "2", "1", "0"])
        self.assert_asked(desk, ["put 0 halt", "take 0", "fit 400 3"])
        program = read_program(LOOP)
        self.assert_state(desk, program, book_of(program, run_rows(program, (3,), 400)[2]))

    def test_two_that_know_nothing_of_each_other(self):
        one, other = Desk(), Desk()
        self.assert_asked(one, ["put 0 halt", "fit"])
        self.assert_state(other, (), EQUAL)
        self.assert_asked(other, ["put 0 tell a", "put 0 tell b"])
        self.assert_state(one, "halt", book_of((("halt",),), (1,)))
        self.assert_state(Desk(), (), EQUAL)

    def test_what_was_told_stays_as_it_was_told(self):
        desk = desk_of(LOOP)
        told = state_of(desk)
        copies = [list(texts) for texts in told]
        self.assert_asked(desk, ["put 0 halt", "take 3", "fit"])
        self.assertEqual(told, copies)

    def test_the_same_asked_again(self):
        lines = ["put 0 halt", "put 0 put a 7", "put 1 zero a 0", "rows", "bits", "fit 20 5", "places", "book", "run 9",
                 "fit", "book", "bits"]
        one, other = Desk(), Desk()
        self.assertEqual([one.ask(line) for line in lines], [other.ask(line) for line in lines])
        self.assertEqual(state_of(one), state_of(one))

    def test_by_chance(self):
        chance = random.Random(131)
        for number in range(12):
            desk, held, book = Desk(), Held(), EQUAL
            for turn in range(80):
                many, program = len(held.rows), held.program()
                deed = chance.choice(("put", "put", "put", "take", "fit", "fitrun", "run", "read", "wrong"))
                given = [chance.choice((0, 1, 70000, 10 ** 20)) for count in range(chance.randint(0, 4))]
                most = chance.choice((0, 1, 30, 400))
                asked = " ".join([str(count) for count in [most] + given])
                ran = run_rows(program, tuple(given), most)
                if deed == "put" and many < 60:
                    place, row = chance.randint(0, many), row_by_chance(chance, many + 1)
                    held.put_in(place, row)
                    self.assert_asked(desk, ["put " + str(place) + " " + program_shown((row,))])
                elif deed == "take" and many:
                    place = chance.randrange(many)
                    held.take_out(place)
                    self.assert_asked(desk, ["take " + str(place)])
                elif deed == "fit":
                    book = book_of(program, (1,) * many)
                    self.assert_asked(desk, ["fit"])
                elif deed == "fitrun":
                    book = book_of(program, ran[2])
                    self.assert_asked(desk, ["fit " + asked])
                elif deed == "run":
                    self.assertEqual(desk.ask("run " + asked), [ran[0]] + [str(told) for told in ran[1]])
                elif deed == "read" and many:
                    self.assert_asked(desk, ["read " + desk.ask("bits")[0]])
                elif deed == "wrong":
                    self.assert_refused(desk, "take " + str(many), NoRow)
                self.assert_state(desk, held.program(), book)

    def test_quickly(self):
        begun = time.perf_counter()
        desk = Desk()
        for number in range(60):
            self.assert_asked(desk, ["put 0 zero a " + str(number // 2), "fit 400 1 2 3"])
            state_of(desk)
        desk.ask("run 400")
        self.assertLess(time.perf_counter() - begun, 10)

    def test_by_the_name_of_the_argument(self):
        self.assertEqual(Desk().ask(line="bits"), [""])


if __name__ == "__main__":
    unittest.main()
