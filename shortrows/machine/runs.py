"""Programs run row by row."""

from shortrows.machine.rows import BOXES, WHOLE, goal_of


class Machine:
    def __init__(self, given):
        self.given = given
        self.heard = 0
        self.told = []
        self.boxes = dict([(box, 0) for box in BOXES])

    # Rows may be told by their numbers or by places of bits: behind is the one behind this row, end that behind all.
    def place_next(self, row, behind, end):
        goes = self.carry_out(row)
        if row[0] == "halt":
            return end
        return goal_of(row) if goes else behind

    # Answers whether the row's goal is next.
    def carry_out(self, row):
        word = row[0]
        if word == "jump":
            return True
        if word == "zero":
            return self.boxes[row[1]] == 0
        if word == "tell":
            self.told.append(self.boxes[row[1]])
        elif word != "halt":
            self.boxes[row[1]] = self.number_for(row)
        return False

    def number_for(self, row):
        word = row[0]
        if word == "put":
            return row[2]
        if word == "hear":
            return self.heard_number() % WHOLE
        old = self.boxes[row[1]]
        other = self.boxes[row[2]]
        if word == "add":
            return (old + other) % WHOLE
        if word == "sub":
            return (old - other) % WHOLE
        return other % WHOLE

    def heard_number(self):
        if self.heard >= len(self.given):
            return 0
        self.heard = self.heard + 1
        return self.given[self.heard - 1]

    def told_numbers(self):
        return tuple(self.told)

    def box_numbers(self):
        return tuple([self.boxes[box] for box in BOXES])


def run_rows(program, given, most):
    machine = Machine(given)
    turns = [0 for row in program]
    at = 0
    done = 0
    while at < len(program) and done < most:
        turns[at] = turns[at] + 1
        done = done + 1
        at = machine.place_next(program[at], at + 1, len(program))
    how = "more" if at < len(program) else "halt"
    return (how, machine.told_numbers(), tuple(turns), machine.box_numbers())
