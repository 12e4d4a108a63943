import random
import unittest

from shortrows.machine.runs import run_rows
from shortrows.machine.texts import read_program

ZEROS = (0,) * 8
BOXES = "abcdefgh"


def run_text(text, given=(), most=400):
    return run_rows(read_program(text), given, most)


def boxes_with(**numbers):
    return tuple([numbers.get(box, 0) for box in BOXES])


class RunsTest(unittest.TestCase):
    def assert_told(self, text, told, given=()):
        how, said, turns, boxes = run_text(text, given)
        self.assertEqual((how, said), ("halt", told), text)

    def test_boxes_are_0_at_first(self):
        text = "\n".join(["tell " + box for box in BOXES])
        self.assertEqual(run_text(text), ("halt", ZEROS, (1,) * 8, ZEROS))

    def test_put_into_every_box(self):
        text = "\n".join(["put " + box + " " + str(number + 1) for number, box in enumerate(BOXES)])
        self.assertEqual(run_text(text), ("halt", (), (1,) * 8, (1, 2, 3, 4, 5, 6, 7, 8)))
        self.assertEqual(run_text("put a 65535\nput b 7\nput b 0"), ("halt", (), (1, 1, 1), boxes_with(a=65535)))

    def test_add(self):
        self.assertEqual(run_text("put a 3\nput b 4\nadd a b")[3], boxes_with(a=7, b=4))
        self.assertEqual(run_text("put a 3\nadd a a")[3], boxes_with(a=6))

    def test_sums_beyond(self):
        self.assertEqual(run_text("put a 65535\nput b 1\nadd a b")[3], boxes_with(a=0, b=1))
        self.assertEqual(run_text("put a 65535\nput b 0\nadd a b")[3], boxes_with(a=65535))
        self.assertEqual(run_text("put a 65535\nadd a a")[3], boxes_with(a=65534))
        self.assertEqual(run_text("put a 32768\nadd a a")[3], ZEROS)

    def test_sub(self):
        self.assertEqual(run_text("put a 9\nput b 4\nsub a b")[3], boxes_with(a=5, b=4))
        self.assertEqual(run_text("put a 9\nsub a a")[3], ZEROS)

    def test_differences_beyond(self):
        self.assertEqual(run_text("put b 1\nsub a b")[3], boxes_with(a=65535, b=1))
        self.assertEqual(run_text("put b 65535\nsub a b")[3], boxes_with(a=1, b=65535))
        self.assertEqual(run_text("put a 4\nput b 9\nsub a b")[3], boxes_with(a=65531, b=9))

    def test_copy(self):
        self.assertEqual(run_text("put a 3\nput b 4\ncopy a b")[3], boxes_with(a=4, b=4))
        self.assertEqual(run_text("put a 3\ncopy a h")[3], ZEROS)
        self.assertEqual(run_text("put c 65535\ncopy c c")[3], boxes_with(c=65535))

    def test_tell(self):
        self.assert_told("put a 5\ntell a\ntell b\nput a 6\ntell a", (5, 0, 6))

    def test_hear(self):
        self.assert_told("hear a\nhear b\ntell b\ntell a", (8, 7), (7, 8, 9))

    def test_given_numbers_beyond(self):
        given = (-1, 65536, 65537, 65535, -65536, -65537, 10 ** 30, -10 ** 30)
        text = "\n".join(["hear a\ntell a"] * len(given))
        self.assert_told(text, (65535, 0, 1, 65535, 0, 65535, 10 ** 30 % 65536, -10 ** 30 % 65536), given)

    def test_more_hear_rows_than_given_numbers(self):
        self.assert_told("put a 5\nhear a\ntell a\nput a 5\nhear a\ntell a\nhear a\ntell a", (3, 0, 0), (3,))
        self.assertEqual(run_text("put a 5\nhear a"), ("halt", (), (1, 1), ZEROS))

    def test_forty_given_numbers(self):
        given = tuple(range(1, 41))
        how, told, turns, boxes = run_text("hear a\nzero a 4\ntell a\njump 0", given, 400)
        self.assertEqual((how, told, turns), ("halt", given, (41, 41, 40, 40)))

    def test_jump(self):
        self.assertEqual(run_text("jump 2\nput a 1\nput b 1"), ("halt", (), (1, 0, 1), boxes_with(b=1)))
        self.assertEqual(run_text("jump 1\nput a 1"), ("halt", (), (1, 1), boxes_with(a=1)))

    def test_zero(self):
        self.assertEqual(run_text("zero a 2\nput b 1\nput c 1"), ("halt", (), (1, 0, 1), boxes_with(c=1)))
        self.assertEqual(run_text("put a 1\nzero a 3\nput b 1\nput c 1"),
                         ("halt", (), (1, 1, 1, 1), boxes_with(a=1, b=1, c=1)))

    def test_zero_looks_at_its_own_box(self):
        for box in BOXES:
            others = "\n".join(["put " + other + " 1" for other in BOXES if other != box])
            self.assertEqual(run_text(others + "\nzero " + box + " 9\ntell a")[1], ())
            self.assertEqual(run_text("put " + box + " 1\nzero " + box + " 3\ntell " + box)[1], (1,))

    def test_to_behind_all_rows(self):
        self.assertEqual(run_text("jump 2\nput a 1"), ("halt", (), (1, 0), ZEROS))
        self.assertEqual(run_text("zero h 2\nput a 1"), ("halt", (), (1, 0), ZEROS))
        self.assertEqual(run_text("jump 1"), ("halt", (), (1,), ZEROS))
        self.assertEqual(run_text("jump 1", (), 1), ("halt", (), (1,), ZEROS))
        self.assertEqual(run_text("zero a 1", (), 1), ("halt", (), (1,), ZEROS))

    def test_halt_counts_as_carried_out(self):
        self.assertEqual(run_text("put a 1\nhalt\nput b 1"), ("halt", (), (1, 1, 0), boxes_with(a=1)))
        self.assertEqual(run_text("halt", (), 1), ("halt", (), (1,), ZEROS))
        self.assertEqual(run_text("halt", (), 0), ("more", (), (0,), ZEROS))
        self.assertEqual(run_text("tell a\nhalt", (), 1), ("more", (0,), (1, 0), ZEROS))
        self.assertEqual(run_text("tell a\nhalt", (), 2), ("halt", (0,), (1, 1), ZEROS))

    def test_bound_of_0(self):
        for text in ("put a 1", "tell a", "jump 0", "jump 1", "zero a 1"):
            self.assertEqual(run_text(text, (5,), 0), ("more", (), (0,), ZEROS))

    def test_program_of_no_rows(self):
        for most in (0, 1, 400):
            self.assertEqual(run_rows((), (1, 2), most), ("halt", (), (), ZEROS))

    def test_ends_just_with_its_bound(self):
        text = "put a 1\ntell a\ntell a"
        self.assertEqual(run_text(text, (), 2), ("more", (1,), (1, 1, 0), boxes_with(a=1)))
        self.assertEqual(run_text(text, (), 3), ("halt", (1, 1), (1, 1, 1), boxes_with(a=1)))
        self.assertEqual(run_text(text, (), 4), ("halt", (1, 1), (1, 1, 1), boxes_with(a=1)))

    def test_run_without_end(self):
        self.assertEqual(run_text("jump 0", (), 400), ("more", (), (400,), ZEROS))
        self.assertEqual(run_text("put b 1\nadd a b\njump 1", (), 400),
                         ("more", (), (1, 200, 199), boxes_with(a=200, b=1)))

    def test_a_loop_that_ends(self):
        text = "hear a\nput b 1\nzero a 6\nsub a b\ntell a\njump 2\nhalt"
        self.assertEqual(run_text(text, (3,)), ("halt", (2, 1, 0), (1, 1, 4, 3, 3, 3, 1), boxes_with(b=1)))

    def test_sixty_rows(self):
        program = (("put", "a", 1),) + (("add", "a", "a"),) * 15 + (("tell", "a"),) * 44
        how, told, turns, boxes = run_rows(program, (), 60)
        self.assertEqual((how, told, turns), ("halt", (32768,) * 44, (1,) * 60))
        self.assertEqual(run_rows(program, (), 59)[0], "more")

    def test_kinds(self):
        answer = run_text("hear a\ntell a", (7,))
        self.assertIs(type(answer), tuple)
        self.assertEqual([type(part) for part in answer], [str, tuple, tuple, tuple])
        for part in answer[1:]:
            self.assertEqual(set([type(number) for number in part]), {int})

    def test_the_same_asked_again(self):
        program = read_program("hear a\ntell a\nadd b a\nzero c 0")
        first = run_rows(program, (1, 2, 3), 30)
        run_rows(program, (9, 9), 7)
        self.assertEqual(run_rows(program, (1, 2, 3), 30), first)
        self.assertEqual(program, read_program("hear a\ntell a\nadd b a\nzero c 0"))

    def test_bounds_of_any_run_agree(self):
        chance = random.Random(7)
        for time in range(300):
            size = chance.randint(1, 12)
            program = tuple([some_row(chance, size) for at in range(size)])
            given = tuple([chance.randint(-9, 70000) for number in range(chance.randint(0, 4))])
            how, told, turns, boxes = run_rows(program, given, 100)
            carried = sum(turns)
            self.assertEqual(len(turns), size)
            self.assertTrue(carried <= 100 and (how == "halt" or carried == 100))
            self.assertEqual(run_rows(program, given, carried), (how, told, turns, boxes))
            self.assertEqual(run_rows(program, given, carried - 1)[0], "more")
            self.assertEqual(sum(run_rows(program, given, carried - 1)[2]), carried - 1)

    def test_any_run_against_another_way_of_running(self):
        chance = random.Random(8)
        for time in range(600):
            size = chance.randint(0, 14)
            program = tuple([some_row(chance, size) for at in range(size)])
            given = tuple([chance.randint(-70000, 140000) for number in range(chance.randint(0, 6))])
            most = chance.choice((0, 1, 5, 50, 400))
            self.assertEqual(run_rows(program, given, most), run_another_way(program, given, most), program)

    def test_by_the_names_of_the_arguments(self):
        self.assertEqual(run_rows(program=(("halt",),), given=(), most=1), ("halt", (), (1,), ZEROS))


def some_row(chance, size):
    box, other, goal = chance.choice("abc"), chance.choice("abch"), chance.randint(0, size)
    return chance.choice((
        ("put", box, chance.choice((0, 1, 2, 65535, 40000))), ("add", box, other), ("sub", box, other),
        ("copy", box, other), ("tell", box), ("hear", box), ("jump", goal), ("zero", box, goal), ("zero", box, goal),
        ("halt",)))


# Answers what is next: "halt", a goal, or None for the row behind.
def carried_out_another_way(row, boxes, told, heard):
    word = row[0]
    where = [BOXES.find(part) if isinstance(part, str) else part for part in row[1:]]
    if word == "halt":
        return "halt"
    if word == "jump":
        return where[0]
    if word == "zero":
        return None if boxes[where[0]] else where[1]
    if word == "tell":
        told.append(boxes[where[0]])
    elif word == "hear":
        boxes[where[0]] = heard.pop(0) & 65535 if heard else 0
    else:
        old, new = boxes[where[0]], where[1] if word == "put" else boxes[where[1]]
        boxes[where[0]] = {"put": new, "copy": new, "add": old + new, "sub": old - new}[word] & 65535
    return None


def run_another_way(program, given, most):
    trace, told, boxes, heard, at = [], [], [0] * 8, list(given), 0
    while at != len(program):
        if len(trace) == most:
            how = "more"
            break
        trace.append(at)
        follows = carried_out_another_way(program[at], boxes, told, heard)
        at = {"halt": len(program), None: at + 1}.get(follows, follows)
    else:
        how = "halt"
    return (how, tuple(told), tuple([trace.count(row) for row in range(len(program))]), tuple(boxes))


if __name__ == "__main__":
    unittest.main()
