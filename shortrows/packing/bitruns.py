"""Bits run as they are."""

from shortrows.machine.runs import Machine
from shortrows.packing.packed import codes_of
from shortrows.packing.unpacked import row_at


def run_bits(bits, book, given, most):
    codes = codes_of(book)
    machine = Machine(given)
    read = 0
    done = 0
    place = 0
    found = row_at(codes, bits, place)
    while found is not None and done < most:
        read = read + found[1] - place
        done = done + 1
        place = machine.place_next(found[0], found[1], len(bits))
        found = row_at(codes, bits, place)
    if place == len(bits):
        how = "halt"
    else:
        how = "bad" if found is None else "more"
    return (how, machine.told_numbers(), read, machine.box_numbers())
