"""A desk, asked by lines."""

from shortrows.errors import NoAsk
from shortrows.kept import Kept
from shortrows.machine.runs import run_rows
from shortrows.machine.texts import is_number, read_number, read_row, row_shown
from shortrows.packing.packed import HOW_MANY, book_of
from shortrows.packing.unpacked import read_rows

MOST_ROWS = 60
MOST_CARRIED_OUT = 400

# The lengths of all words, all classes and all boxes in the book at first.
EQUAL_LENGTHS = (4, 5, 3)


class Desk:
    def __init__(self):
        self.kept = Kept(tuple([(length,) * many for length, many in zip(EQUAL_LENGTHS, HOW_MANY)]))

    def ask(self, line):
        if line == "rows":
            return [row_shown(row) for row in self.kept.program()]
        if line == "bits":
            return [self.kept.bits()]
        if line == "places":
            return [numbers_shown(self.kept.places())]
        if line == "book":
            return [numbers_shown(lengths) for lengths in self.kept.book]
        # Parted at each single blank, one too many leaves a part without signs, which is no part of any line.
        parts = line.split(" ")
        if parts[0] == "run":
            return self.run_shown(parts[1:])
        self.change(parts[0], parts[1:])
        return []

    def change(self, word, parts):
        if word == "put":
            self.put_row(parts)
        elif word == "take":
            self.take_row(parts)
        elif word == "fit":
            self.fit_book(parts)
        elif word == "read":
            self.read_bits(parts)
        else:
            raise NoAsk("no such line is known")

    def put_row(self, parts):
        if len(parts) < 2:
            raise NoAsk("put wants a place and a row")
        place = asked_place(parts[0])
        row = read_row(" ".join(parts[1:]), MOST_ROWS)
        if row is None:
            raise NoAsk("put wants a row behind its place")
        if len(self.kept.program()) >= MOST_ROWS:
            raise NoAsk(f"there are {MOST_ROWS} rows, and no more can be put")
        self.kept.put_in(place, row)

    def take_row(self, parts):
        if len(parts) != 1:
            raise NoAsk("take wants one place")
        self.kept.take_out(asked_place(parts[0]))

    def fit_book(self, parts):
        program = self.kept.program()
        counts = tuple([1 for row in program]) if parts == [] else self.asked_run(parts)[2]
        self.kept.change_book(book_of(program, counts))

    def read_bits(self, parts):
        if len(parts) != 1 or not is_bits(parts[0]):
            raise NoAsk("read wants bits")
        self.kept.change_rows(read_rows(parts[0], self.kept.book))

    def run_shown(self, parts):
        run = self.asked_run(parts)
        return [run[0]] + [str(number) for number in run[1]]

    def asked_run(self, parts):
        most = None if parts == [] else read_number(parts[0], MOST_CARRIED_OUT)
        if most is None:
            raise NoAsk(f"a run wants to know how many rows it may carry out, at most {MOST_CARRIED_OUT}")
        return run_rows(self.kept.program(), tuple([asked_number(part) for part in parts[1:]]), most)


def asked_place(text):
    # No row has a place of more figures than these; and what they tell alone is a place of none then, too.
    return int(asked_figures(text)[:9])


def asked_number(text):
    # int refuses very long texts. Where a number is heard, its rest at 65536 is taken, and 10 ** 16 leaves none.
    return int(asked_figures(text)[-16:])


def asked_figures(text):
    if not is_number(text):
        raise NoAsk("a number is written in figures, with no nought ahead")
    return text


def is_bits(text):
    return text != "" and all([sign in "01" for sign in text])


def numbers_shown(numbers):
    return " ".join([str(number) for number in numbers])
