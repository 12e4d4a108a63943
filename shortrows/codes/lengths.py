"""Lengths of words of bits of which none begins another one."""

from shortrows.errors import NoCode


def can_be(lengths):
    free = 1
    depth = 0
    left = len(lengths)
    for length in sorted(lengths):
        if free == 0:
            return False
        # Once there is a free word for each that is left, the rest fits; so free stays small, however long they are.
        while depth < length and free < left:
            free = free * 2
            depth = depth + 1
        if free >= left:
            return True
        free = free - 1
        left = left - 1
    return True


def cost_of(counts, lengths):
    return sum([count * length for count, length in zip(counts, lengths)])


def least_lengths(counts, bound):
    things = len(counts)
    # Where any lengths within the bound can be, all as long as the bound can.
    if bound < 1 or not can_be([bound for count in counts]):
        raise NoCode(f"no lengths up to {bound} for {things} things")
    if things == 1:
        return (1,)
    # Least lengths need not be above things - 1: even where each bit parts off but one thing, all are parted then.
    chosen = chosen_things(counts, min(bound, things - 1))
    return tuple([chosen.count(thing) for thing in range(things)])


# Each thing has a coin for each depth, worth its count: at depth 1 it is half wide, at each further one half as wide as
# at the one above. Two of a depth make a pack, as wide as a coin of the depth above. So the cheapest 2 * things - 2 at
# depth 1 are the cheapest ones that are things - 1 wide; and a thing has at most its width of 1 among them but for
# that of a word as long as coins of it are taken. Hence words so long are at most 1 wide in all, and can be.
def chosen_things(counts, bound):
    coins = [(count, [thing]) for thing, count in enumerate(counts)]
    shelf = by_worth(coins)
    for depth in range(1, bound):
        shelf = by_worth(coins + packs_of(shelf))
    chosen = []
    for item in shelf[:2 * len(counts) - 2]:
        chosen.extend(item[1])
    return chosen


def by_worth(shelf):
    return sorted(shelf, key=lambda item: item[0])


def packs_of(shelf):
    return [(one[0] + other[0], one[1] + other[1]) for one, other in zip(shelf[0::2], shelf[1::2])]
