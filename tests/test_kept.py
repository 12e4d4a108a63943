import random
import time
import unittest

from shortrows.errors import NoRow
from shortrows.kept import Kept
from shortrows.machine.runs import run_rows
from shortrows.machine.texts import read_program
from shortrows.packing.bitruns import run_bits
from shortrows.packing.packed import pack_rows
from shortrows.packing.unpacked import read_rows
from test_packed import EQUAL, PARTS, row_by_chance
from test_unpacked import BOOKS, SHORT

HALT = ("halt",)


# Rows that hold on to the very rows that they go to, so that nothing need be counted when some come and go.
class Held:
    def __init__(self):
        self.rows = []

    def put_in(self, place, row):
        new = {"row": row, "to": None}
        self.rows.insert(place, new)
        if "g" in PARTS[row[0]] and row[-1] < len(self.rows):
            new["to"] = self.rows[row[-1]]

    def take_out(self, place):
        gone = self.rows.pop(place)
        for held in self.rows:
            if held["to"] is gone:
                held["to"] = self.rows[place] if place < len(self.rows) else None

    def program(self):
        numbers = {id(held): number for number, held in enumerate(self.rows)}
        numbers[id(None)] = len(self.rows)
        return tuple([held["row"][:-1] + (numbers[id(held["to"])],) if "g" in PARTS[held["row"][0]] else held["row"]
                      for held in self.rows])


# Rows may only go to such as are there: so halt rows stand there first. Each gives way to the row put in behind it, so
# that what went to it goes to that one.
def kept_of(text, book=EQUAL):
    kept, program = Kept(book), read_program(text)
    for row in program:
        kept.put_in(0, HALT)
    for place, row in enumerate(program):
        if "g" in PARTS[row[0]]:
            row = row[:-1] + (row[-1] + (row[-1] >= place),)
        kept.put_in(place + 1, row)
        kept.take_out(place)
    return kept


class KeptTest(unittest.TestCase):
    def assert_kept(self, kept, program, book=EQUAL):
        if isinstance(program, str):
            program = read_program(program)
        self.assertEqual(kept.program(), program)
        bits, places = pack_rows(program, book)
        self.assertEqual(kept.bits(), bits)
        self.assertEqual(kept.places(), places)

    def assert_no_row(self, kept, name, *arguments):
        ahead = (kept.program(), kept.bits(), kept.places())
        with self.assertRaises(NoRow):
            getattr(kept, name)(*arguments)
        self.assertEqual((kept.program(), kept.bits(), kept.places()), ahead)

    def test_of_no_rows(self):
        for book in BOOKS:
            kept = Kept(book)
            self.assertEqual((kept.program(), kept.bits(), kept.places()), ((), "", ()))

    def test_put_in_and_taken_out_tell_nothing(self):
        kept = Kept(EQUAL)
        self.assertIsNone(kept.put_in(0, HALT))
        self.assertIsNone(kept.take_out(0))
        self.assert_kept(kept, ())

    def test_ahead_of_the_first_between_and_behind_all(self):
        kept = Kept(EQUAL)
        kept.put_in(0, ("tell", "a"))
        self.assert_kept(kept, "tell a")
        kept.put_in(0, ("tell", "b"))
        self.assert_kept(kept, "tell b\ntell a")
        kept.put_in(2, ("tell", "c"))
        self.assert_kept(kept, "tell b\ntell a\ntell c")
        kept.put_in(1, ("put", "d", 65535))
        self.assert_kept(kept, "tell b\nput d 65535\ntell a\ntell c")

    def test_each_of_the_nine_words(self):
        text = "put a 5\nadd a b\nsub c d\ncopy e f\ntell g\nhear h\njump 3\nzero a 9\nhalt"
        self.assert_kept(kept_of(text), text)

    def test_goals_to_ahead_of_and_behind_the_place(self):
        kept = kept_of("jump 0\nzero a 1\njump 2\nzero b 3\njump 4")
        kept.put_in(2, HALT)
        self.assert_kept(kept, "jump 0\nzero a 1\nhalt\njump 3\nzero b 4\njump 5")
        kept.put_in(0, HALT)
        self.assert_kept(kept, "halt\njump 1\nzero a 2\nhalt\njump 4\nzero b 5\njump 6")

    def test_goals_behind_all_stay_behind_all(self):
        kept = kept_of("jump 3\nzero a 3\nhalt")
        kept.put_in(3, ("tell", "a"))
        self.assert_kept(kept, "jump 4\nzero a 4\nhalt\ntell a")
        kept.put_in(0, ("tell", "b"))
        self.assert_kept(kept, "tell b\njump 5\nzero a 5\nhalt\ntell a")
        kept.take_out(4)
        self.assert_kept(kept, "tell b\njump 4\nzero a 4\nhalt")

    def test_the_last_row_gone_to_when_one_is_put_in_behind_all(self):
        kept = kept_of("jump 1\nhalt")
        kept.put_in(2, ("tell", "a"))
        self.assert_kept(kept, "jump 1\nhalt\ntell a")

    def test_a_new_rows_own_goal(self):
        for goal in range(5):
            kept = kept_of("halt\ntell a\nhear a")
            kept.put_in(1, ("jump", goal))
            self.assert_kept(kept, "halt\njump " + str(goal) + "\ntell a\nhear a")
        for goal in range(3):
            kept = kept_of("halt")
            kept.put_in(0, ("zero", "b", goal))
            self.assert_kept(kept, "zero b " + str(goal) + "\nhalt")

    def test_a_new_row_to_itself_and_behind_all(self):
        for goal in (0, 1):
            kept = Kept(EQUAL)
            kept.put_in(0, ("jump", goal))
            self.assert_kept(kept, "jump " + str(goal))
            kept.put_in(0, ("zero", "a", 0))
            kept.put_in(2, ("zero", "b", 2))
            kept.put_in(3, ("zero", "c", 4))
            goals = {0: 1, 1: 4}
            self.assert_kept(kept, "zero a 0\njump " + str(goals[goal]) + "\nzero b 2\nzero c 4")

    def test_a_row_taken_out_that_others_go_to(self):
        kept = kept_of("jump 2\nzero a 1\nhalt\ntell a\njump 3")
        kept.take_out(2)
        self.assert_kept(kept, "jump 2\nzero a 1\ntell a\njump 2")
        kept.take_out(2)
        self.assert_kept(kept, "jump 2\nzero a 1\njump 2")
        kept.take_out(2)
        self.assert_kept(kept, "jump 2\nzero a 1")

    def test_the_first_taken_out(self):
        kept = kept_of("tell a\njump 0\njump 1\njump 2\njump 5\nhalt")
        kept.take_out(0)
        self.assert_kept(kept, "jump 0\njump 0\njump 1\njump 4\nhalt")

    def test_the_last_taken_out(self):
        kept = kept_of("jump 2\nzero a 3\nhalt")
        kept.take_out(2)
        self.assert_kept(kept, "jump 2\nzero a 2")
        kept.take_out(1)
        self.assert_kept(kept, "jump 1")

    def test_the_only_one_taken_out(self):
        for row in (HALT, ("jump", 0), ("jump", 1), ("zero", "a", 0)):
            kept = Kept(EQUAL)
            kept.put_in(0, row)
            kept.take_out(0)
            self.assert_kept(kept, ())
            kept.put_in(0, ("tell", "a"))
            self.assert_kept(kept, "tell a")

    def test_a_row_that_goes_to_itself_taken_out(self):
        kept = kept_of("jump 1\njump 1\nhalt")
        kept.take_out(1)
        self.assert_kept(kept, "jump 1\nhalt")

    def test_put_in_and_taken_out_again(self):
        text = "jump 3\nzero a 0\njump 1\nzero b 4"
        for place in range(5):
            kept = kept_of(text)
            kept.put_in(place, ("jump", place))
            kept.take_out(place)
            self.assert_kept(kept, text)

    def test_places_that_there_are_not(self):
        kept = kept_of("jump 1\nhalt\nzero a 3")
        for place in (-1, -2, -3, -4, -10 ** 30, 4, 5, 61, 10 ** 30):
            self.assert_no_row(kept, "put_in", place, HALT)
            self.assert_no_row(kept, "put_in", place, ("jump", 0))
        for place in (-1, -2, -3, -4, -10 ** 30, 3, 4, 61, 10 ** 30):
            self.assert_no_row(kept, "take_out", place)
        self.assert_kept(kept, "jump 1\nhalt\nzero a 3")

    def test_goals_that_there_cannot_be(self):
        kept = kept_of("jump 1\nhalt\nzero a 3")
        for goal in (-1, -2, -3, -4, -10 ** 30, 5, 6, 61, 10 ** 30):
            for place in range(4):
                self.assert_no_row(kept, "put_in", place, ("jump", goal))
                self.assert_no_row(kept, "put_in", place, ("zero", "a", goal))
        # A number to be put is no goal.
        kept.put_in(0, ("put", "a", 5))
        kept.put_in(4, ("jump", 5))
        self.assert_kept(kept, "put a 5\njump 2\nhalt\nzero a 5\njump 5")

    def test_none_there(self):
        kept = Kept(EQUAL)
        for place in (-1, 1, 2):
            self.assert_no_row(kept, "put_in", place, HALT)
        for goal in (-1, 2, 3):
            self.assert_no_row(kept, "put_in", 0, ("jump", goal))
            self.assert_no_row(kept, "put_in", 0, ("zero", "a", goal))
        for place in (-1, 0, 1):
            self.assert_no_row(kept, "take_out", place)
        self.assert_kept(kept, ())

    def test_taken_out_of_none_once_there_was_one(self):
        kept = kept_of("halt")
        kept.take_out(0)
        for place in (-1, 0, 1):
            self.assert_no_row(kept, "take_out", place)

    def test_bits_and_places_by_the_book(self):
        text = "put a 2\nzero h 0\nhalt"
        for book in BOOKS:
            self.assert_kept(kept_of(text, book), text, book)
        self.assertEqual(kept_of("halt\nhalt", SHORT).bits(), "00")
        self.assertEqual(kept_of("halt\nhalt", SHORT).places(), (0, 1))
        self.assertEqual(kept_of("halt\ntell a").bits(), "1000" + "0100000")
        self.assertEqual(kept_of("halt\ntell a").places(), (0, 4))

    def test_widths_grow_and_shrink(self):
        kept = kept_of("jump 1\nhalt")
        narrow = kept.bits()
        for turn in range(40):
            kept.put_in(1, ("tell", "a"))
        self.assertEqual(kept.bits()[:6], "011011")
        for turn in range(40):
            kept.take_out(1)
        self.assertEqual(kept.bits(), narrow)
        self.assertEqual(narrow, "0110" + "0" + "0000" + "1000")

    def test_sixty_rows(self):
        kept = Kept(EQUAL)
        for number in range(60):
            kept.put_in(0, ("jump", number + 1))
        self.assert_kept(kept, "\n".join(["jump 60"] * 60))
        for number in range(60):
            kept.take_out(0)
        self.assert_kept(kept, ())

    def test_by_chance(self):
        chance = random.Random(109)
        for number in range(40):
            book = BOOKS[number % len(BOOKS)]
            kept, held = Kept(book), Held()
            for turn in range(chance.choice((20, 60, 150))):
                many = len(held.rows)
                if many == 60 or many and chance.random() < 0.4:
                    place = chance.randrange(many)
                    kept.take_out(place)
                    held.take_out(place)
                else:
                    place, row = chance.randint(0, many), row_by_chance(chance, many + 1)
                    kept.put_in(place, row)
                    held.put_in(place, row)
                self.assertEqual(kept.program(), held.program())
                if turn % 5 == 0:
                    self.assert_kept(kept, held.program(), book)
            self.assert_whole(chance, kept, book)

    # What is kept is read back as the very rows, and run as bits it tells what they tell.
    def assert_whole(self, chance, kept, book):
        program, bits = kept.program(), kept.bits()
        self.assertEqual(read_rows(bits, book), program)
        given = tuple([chance.randint(-9, 70000) for turn in range(5)])
        for most in (0, 3, 400):
            how, told, turns, boxes = run_rows(program, given, most)
            answer = run_bits(bits, book, given, most)
            self.assertEqual((answer[0], answer[1], answer[3]), (how, told, boxes))

    def test_refusals_by_chance_change_nothing(self):
        chance = random.Random(113)
        kept, held = Kept(EQUAL), Held()
        refused = 0
        for turn in range(600):
            many = len(held.rows)
            place = chance.randint(-3, many + 3)
            if chance.random() < 0.45:
                if 0 <= place < many:
                    kept.take_out(place)
                    held.take_out(place)
                else:
                    refused += 1
                    self.assert_no_row(kept, "take_out", place)
            else:
                goal = chance.randint(-2, many + 3)
                row = chance.choice((("jump", goal), ("zero", "b", goal), ("put", "c", 65535), HALT))
                if 0 <= place <= many and (row[0] in ("put", "halt") or 0 <= row[-1] <= many + 1) and many < 60:
                    kept.put_in(place, row)
                    held.put_in(place, row)
                elif many < 60:
                    refused += 1
                    self.assert_no_row(kept, "put_in", place, row)
            self.assertEqual(kept.program(), held.program())
        self.assertGreater(refused, 100)

    def test_two_that_know_nothing_of_each_other(self):
        one, other = Kept(EQUAL), Kept(SHORT)
        one.put_in(0, HALT)
        self.assert_kept(other, (), SHORT)
        other.put_in(0, ("tell", "a"))
        other.put_in(1, ("jump", 0))
        self.assert_kept(one, "halt")
        one.take_out(0)
        self.assert_kept(other, "tell a\njump 0", SHORT)
        self.assert_kept(one, ())

    def test_what_was_told_stays_as_it_was_told(self):
        kept = kept_of("jump 1\nhalt")
        program, bits, places = kept.program(), kept.bits(), kept.places()
        kept.put_in(1, ("tell", "a"))
        kept.take_out(0)
        self.assertEqual(program, read_program("jump 1\nhalt"))
        self.assertEqual((bits, places), pack_rows(program, EQUAL))

    def test_the_same_asked_again(self):
        kept = kept_of("jump 1\nput a 77\nzero b 0")
        first = (kept.program(), kept.bits(), kept.places())
        self.assertEqual((kept.program(), kept.bits(), kept.places()), first)
        self.assertEqual((kept.program(), kept.bits(), kept.places()), first)

    def test_kinds(self):
        kept = kept_of("jump 1\nput a 77\nzero b 0")
        self.assertEqual([type(kept.program()), type(kept.bits()), type(kept.places())], [tuple, str, tuple])
        self.assertTrue(all([type(row) is tuple for row in kept.program()]))

    def test_quickly(self):
        begun = time.perf_counter()
        kept = Kept(EQUAL)
        for number in range(60):
            kept.put_in(number // 2, ("zero", "a", number // 3))
            kept.bits()
            kept.places()
        self.assertLess(time.perf_counter() - begun, 5)

    def test_by_the_names_of_the_arguments(self):
        kept = Kept(book=EQUAL)
        kept.put_in(place=0, row=HALT)
        kept.take_out(place=0)
        self.assert_kept(kept, ())


if __name__ == "__main__":
    unittest.main()
