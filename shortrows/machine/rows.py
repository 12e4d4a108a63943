"""What rows are made of."""

# A tuple of letters and not a text, so that `in` lets by no run of letters.
BOXES = ("a", "b", "c", "d", "e", "f", "g", "h")

# Boxes and put numbers are below this.
WHOLE = 65536

# What stands behind each word, in the order of the words' numbers.
SHAPES = {
    "put": ("box", "number"),
    "add": ("box", "box"),
    "sub": ("box", "box"),
    "copy": ("box", "box"),
    "tell": ("box",),
    "hear": ("box",),
    "jump": ("goal",),
    "zero": ("box", "goal"),
    "halt": (),
}


def goal_of(row):
    return row[-1] if "goal" in SHAPES[row[0]] else None


# The goal is the last part of each row that has one.
def with_goal(row, goal):
    return row[:-1] + (goal,)
