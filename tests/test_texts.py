import random
import unittest

from shortrows.errors import NoProgram, ShortError
from shortrows.machine.texts import program_shown, read_program

BOXES = "abcdefgh"

# One line that writes a row each, for all nine words, with the row.
NINE = (
    ("put a 7", ("put", "a", 7)),
    ("add b c", ("add", "b", "c")),
    ("sub d e", ("sub", "d", "e")),
    ("copy f g", ("copy", "f", "g")),
    ("tell h", ("tell", "h")),
    ("hear a", ("hear", "a")),
    ("jump 0", ("jump", 0)),
    ("zero b 9", ("zero", "b", 9)),
    ("halt", ("halt",)),
)


def some_row(chance, rows):
    box, other = chance.choice(BOXES), chance.choice(BOXES)
    goal = chance.randint(0, rows)
    return chance.choice((
        ("put", box, chance.choice((0, 1, 10, 65535, chance.randint(0, 65535)))),
        ("add", box, other), ("sub", box, other), ("copy", box, other),
        ("tell", box), ("hear", box), ("jump", goal), ("zero", box, goal), ("halt",)))


class TextsTest(unittest.TestCase):
    def assert_no_row(self, text, row):
        with self.assertRaises(NoProgram) as taken:
            read_program(text)
        self.assertEqual(taken.exception.row, row, text)
        self.assertIs(type(taken.exception.row), int)

    def assert_row(self, line, row):
        self.assertEqual(read_program(line), (row,))

    def test_every_word(self):
        text = "\n".join([line for line, row in NINE])
        program = tuple([row for line, row in NINE])
        self.assertEqual(read_program(text), program)
        self.assertEqual(program_shown(program), text)

    def test_kinds(self):
        program = read_program("put a 7\njump 2")
        self.assertIs(type(program), tuple)
        self.assertEqual([type(row) for row in program], [tuple, tuple])
        self.assertEqual([type(part) for part in program[0]], [str, str, int])
        self.assertEqual([type(part) for part in program[1]], [str, int])
        self.assertIs(type(program_shown(program)), str)

    def test_every_box(self):
        for box in BOXES:
            self.assert_row("put " + box + " 1", ("put", box, 1))
            self.assert_row("tell " + box, ("tell", box))
            self.assert_row("hear " + box, ("hear", box))
            self.assert_row("zero " + box + " 0", ("zero", box, 0))
            for word in ("add", "sub", "copy"):
                self.assert_row(word + " " + box + " h", (word, box, "h"))
                self.assert_row(word + " a " + box, (word, "a", box))

    def test_what_is_no_box(self):
        for box in ("i", "A", "H", "`", "0", "ab", "abcdefgh", "", "aa"):
            self.assert_no_row("tell " + box, 0)
            self.assert_no_row("hear " + box, 0)
            self.assert_no_row("put " + box + " 1", 0)
            self.assert_no_row("zero " + box + " 0", 0)
            self.assert_no_row("add " + box + " a", 0)
            self.assert_no_row("add a " + box, 0)

    def test_what_is_no_word(self):
        for line in ("stop", "Halt", "HALT", "halts", "hal", "move a b", "a", "0", "puta 1", "put", "box", "halt.",
                     "~", "number", "goal"):
            self.assert_no_row(line, 0)

    def test_too_few_or_too_many_parts(self):
        for line in [line.replace("9", "1") for line, row in NINE]:
            self.assertEqual(program_shown(read_program(line)), line)
            parts = line.split(" ")
            self.assert_no_row(line + " a", 0)
            self.assert_no_row(line + " 0", 0)
            if len(parts) > 1:
                self.assert_no_row(" ".join(parts[:-1]), 0)

    def test_parts_of_another_kind(self):
        for line in ("put 1 a", "put a b", "add a 1", "sub 1 a", "copy a 0", "tell 1", "hear 0", "jump a", "zero 0 a",
                     "zero a b", "halt halt"):
            self.assert_no_row(line, 0)

    def test_text_without_signs(self):
        self.assert_no_row("", 0)

    def test_line_without_signs(self):
        self.assert_no_row("\nhalt", 0)
        self.assert_no_row("halt\n\nhalt", 1)
        self.assert_no_row("\n", 0)

    def test_line_end_behind_the_last_line(self):
        self.assert_no_row("halt\n", 1)
        self.assert_no_row("halt\ntell a\n", 2)

    def test_blanks_too_many(self):
        for line in [line.replace("9", "1") for line, row in NINE]:
            self.assert_no_row(" " + line, 0)
            self.assert_no_row(line + " ", 0)
            if " " in line:
                self.assert_no_row(line.replace(" ", "  ", 1), 0)
                self.assert_no_row("  ".join(line.rsplit(" ", 1)), 0)
        self.assert_no_row(" ", 0)
        self.assert_no_row("halt\n ", 1)
        self.assert_no_row("halt \nhalt", 0)

    def test_numbers(self):
        for number in (0, 1, 9, 10, 99, 100, 9999, 10000, 65534, 65535):
            self.assert_row("put a " + str(number), ("put", "a", number))
        for figures in ("65536", "65540", "70000", "99999", "100000", "9" * 3900, "1" + "0" * 3900, "1" * 5000):
            self.assert_no_row("put a " + figures, 0)

    def test_nought_ahead(self):
        for figures in ("00", "01", "007", "065535", "0" * 3900):
            self.assert_no_row("put a " + figures, 0)
            self.assert_no_row("jump " + figures, 0)
            self.assert_no_row("zero a " + figures, 0)

    def test_what_is_no_number(self):
        for figures in ("+1", "-1", "+0", "-0", "1.0", "1e1", "0x1", "1_0", "1,0", "a1", "1a", "", "+", "-", "_1", "~"):
            self.assert_no_row("put a " + figures, 0)
            self.assert_no_row("jump " + figures, 0)
            self.assert_no_row("zero a " + figures, 0)

    def test_goals(self):
        self.assert_row("jump 0", ("jump", 0))
        self.assert_row("jump 1", ("jump", 1))
        self.assert_no_row("jump 2", 0)
        self.assert_row("zero h 1", ("zero", "h", 1))
        self.assert_no_row("zero h 2", 0)
        self.assertEqual(read_program("jump 3\nhalt\nzero a 3"), (("jump", 3), ("halt",), ("zero", "a", 3)))
        self.assert_no_row("halt\njump 4\nhalt", 1)
        self.assert_no_row("halt\nhalt\nzero a 4", 2)
        self.assert_no_row("jump " + "1" * 3900, 0)

    def test_goals_count_all_lines_also_those_that_write_no_row(self):
        self.assert_no_row("jump 2\nno row", 1)
        self.assert_no_row("jump 3\nno row", 0)
        self.assert_no_row("jump 2\n", 1)
        self.assert_no_row("jump 3\n", 0)

    def test_goals_of_more_than_one_figure(self):
        lines = ["halt"] * 59
        self.assertEqual(read_program("\n".join(["jump 60"] + lines))[0], ("jump", 60))
        self.assert_no_row("\n".join(["jump 61"] + lines), 0)
        self.assert_no_row("\n".join(lines + ["zero a 100"]), 59)

    def test_first_wrong_line_is_kept(self):
        self.assert_no_row("halt\nwrong\nput a 65536\n\njump 99", 1)
        self.assert_no_row("halt\nhalt\njump 99\nwrong", 2)
        self.assert_no_row("\n".join(["tell a"] * 40 + ["tell"] + ["wrong"] * 19), 40)

    def test_a_refusal_is_a_short_error(self):
        with self.assertRaises(ShortError):
            read_program("wrong")

    def test_texts_of_4000_signs(self):
        for sign in (" ", "a", "0", "1", "~", "\n"):
            self.assert_no_row(sign * 4000, 0)
        self.assert_no_row("halt\n" * 800, 800)

    def test_shown_and_read_back(self):
        chance = random.Random(5)
        for size in list(range(1, 61)) * 4:
            program = tuple([some_row(chance, size) for at in range(size)])
            text = program_shown(program)
            self.assertEqual(read_program(text), program)
            self.assertEqual(program_shown(read_program(text)), text)

    def test_shown(self):
        self.assertEqual(program_shown((("halt",),)), "halt")
        self.assertEqual(program_shown((("put", "a", 0), ("jump", 2))), "put a 0\njump 2")

    def test_the_same_asked_again(self):
        text = "put a 3\nzero a 2"
        program = read_program(text)
        self.assert_no_row("wrong", 0)
        self.assertEqual(read_program(text), program)
        self.assertEqual(program_shown(program), text)

    def test_by_the_names_of_the_arguments(self):
        self.assertEqual(program_shown(program=read_program(text="halt")), "halt")


if __name__ == "__main__":
    unittest.main()
