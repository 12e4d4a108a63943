"""A program kept under changes of its rows."""

from shortrows.errors import NoRow
from shortrows.machine.rows import goal_of, with_goal
from shortrows.packing.packed import pack_rows


class Kept:
    def __init__(self, book):
        self.book = book
        self.rows = ()

    def put_in(self, place, row):
        many = len(self.rows)
        if place < 0 or place > many:
            raise NoRow(f"nothing can be put in at {place}: there are {many} rows")
        goal = goal_of(row)
        # Behind all is one further once the row is there.
        if goal is not None and (goal < 0 or goal > many + 1):
            raise NoRow(f"no row {goal} can be gone to: there would be {many} others")
        moved = goals_moved(self.rows, place, 1)
        self.rows = moved[:place] + (row,) + moved[place:]

    def take_out(self, place):
        many = len(self.rows)
        if place < 0 or place >= many:
            raise NoRow(f"no row {place} can be taken out: there are {many} rows")
        # A goal that is the place itself stays: the row behind comes to it.
        self.rows = goals_moved(self.rows[:place] + self.rows[place + 1:], place + 1, -1)

    def program(self):
        return self.rows

    def bits(self):
        return pack_rows(self.rows, self.book)[0]

    def places(self):
        return pack_rows(self.rows, self.book)[1]

    # Rows put in one by one could not go to such as come later.
    def change_rows(self, program):
        self.rows = program

    def change_book(self, book):
        self.book = book


def goals_moved(rows, first, by):
    return tuple([goal_moved(row, first, by) for row in rows])


def goal_moved(row, first, by):
    goal = goal_of(row)
    return row if goal is None or goal < first else with_goal(row, goal + by)
