"""The placings of a full board, and the row of a board by the row of its rest."""

from unstruck.reckoning import falling, number_at, signed, ways


def full_number(rows, columns, size):
    return ways(rows, size) * ways(columns, size) * falling(size, size)


def number_by_rest(rows, columns, numbers, size):
    number = 0
    for fixed in range(size + 1):
        # A placing of the rest takes its rows and columns away; what is left of the full board takes the others.
        further = full_number(rows - fixed, columns - fixed, size - fixed)
        number += signed(number_at(numbers, fixed) * further, fixed)
    return number


def without_last_noughts(numbers):
    size = len(numbers)
    while size > 0 and numbers[size - 1] == 0:
        size -= 1
    return numbers[:size]


def row_of_rest(rows, columns, numbers):
    greatest = min(rows, columns)
    row = [number_by_rest(rows, columns, numbers, size) for size in range(greatest + 1)]
    return without_last_noughts(row)
