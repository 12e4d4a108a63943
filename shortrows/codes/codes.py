"""Codes: for each thing its word of bits."""

from shortrows.codes.lengths import can_be
from shortrows.errors import NoBits, NoCode


def code_of(lengths):
    if not can_be(lengths):
        raise NoCode(f"no code has the lengths {lengths!r}")
    words = ["" for length in lengths]
    ahead = None
    # Things of the same length stay in the order of their numbers.
    for thing in sorted(range(len(lengths)), key=lambda number: lengths[number]):
        words[thing] = word_behind(ahead, lengths[thing])
        ahead = words[thing]
    return tuple(words)


def word_behind(ahead, length):
    if ahead is None:
        return "0" * length
    # More by 1: the last 0 becomes 1, and each 1 behind it 0; these and those of a longer word are filled up at once.
    return (ahead.rstrip("1")[:-1] + "1").ljust(length, "0")


def is_code(code):
    # In this order nothing stands between a word and those that it begins but others that it begins.
    ordered = sorted(code)
    return not any([other.startswith(word) for word, other in zip(ordered, ordered[1:])])


def things_written(code, things):
    return "".join([code[thing] for thing in things])


def things_read(code, bits):
    things = []
    place = 0
    while place < len(bits):
        thing = thing_at(code, bits, place)
        if thing is None:
            raise NoBits(place)
        things.append(thing)
        place = place + len(code[thing])
    return tuple(things)


def thing_at(code, bits, place):
    for thing, word in enumerate(code):
        # A word without signs would be read at the same place for ever.
        if word != "" and bits.startswith(word, place):
            return thing
    return None
