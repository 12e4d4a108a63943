"""Programs run row by row."""

from shortrows.machine.rows import BOXES, WHOLE


class Machine:
    def __init__(self, given):
        self.given = given
        self.heard = 0
        self.told = []
        self.boxes = dict([(box, 0) for box in BOXES])

    # Answers whether the row's goal is next; where a goal lies is the caller's affair, and so is the end at halt.
    def carry_out(self, row):
        word = row[0]
        if word == "jump":
            return True
        if word == "zero":
            return self.boxes[row[1]] == 0
        if word == "tell":
            self.told.append(self.boxes[row[1]])
        elif word != "halt":
            self.boxes[row[1]] = self.number_for(row)
        return False

    def number_for(self, row):
        word = row[0]
        if word == "put":
            return row[2]
        if word == "hear":
            return self.heard_number() % WHOLE
        old = self.boxes[row[1]]
        other = self.boxes[row[2]]
        if word == "add":
            return (old + other) % WHOLE
        if word == "sub":
            return (old - other) % WHOLE
        return other % WHOLE

    def heard_number(self):
        if self.heard >= len(self.given):
            return 0
        self.heard = self.heard + 1
        return self.given[self.heard - 1]

    def told_numbers(self):
        return tuple(self.told)

    def box_numbers(self):
        return tuple([self.boxes[box] for box in BOXES])


def run_rows(program, given, most):
    machine = Machine(given)
    turns = [0 for row in program]
    at = 0
    done = 0
    while at < len(program) and done < most:
        goes = machine.carry_out(program[at])
        turns[at] = turns[at] + 1
        done = done + 1
        at = place_behind(program, at, goes)
    how = "more" if at < len(program) else "halt"
    return (how, machine.told_numbers(), tuple(turns), machine.box_numbers())


def place_behind(program, at, goes):
    row = program[at]
    if row[0] == "halt":
        return len(program)
    # The goal is the last part of each row that has one.
    return row[-1] if goes else at + 1
