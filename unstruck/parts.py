"""The parts of a board, the product of rows of numbers, and the row of a board by its parts."""

from unstruck.boards import CELL, HOLE, cells_of
from unstruck.counting import row_of


def hangs_on(part, cell):
    return any([other[0] == cell[0] or other[1] == cell[1] for other in part])


def joined(parts, cell):
    cells = [cell]
    for part in parts:
        cells.extend(part)
    return sorted(cells)


def parts_of(board):
    parts = []
    for cell in cells_of(board):
        # A cell may bring together parts that shared no line till now.
        hanging = [part for part in parts if hangs_on(part, cell)]
        apart = [part for part in parts if not hangs_on(part, cell)]
        parts = apart + [joined(hanging, cell)]
    # No two parts have the same first cell, so as lists they are in order by it.
    return sorted(parts)


def product_of(one, other):
    numbers = [0] * (len(one) + len(other) - 1)
    for place, number in enumerate(one):
        for further, factor in enumerate(other):
            numbers[place + further] += number * factor
    return numbers


def line_of_part(part, row, width):
    return "".join([CELL if (row, column) in part else HOLE for column in range(width)])


def board_of_part(board, part):
    return tuple([line_of_part(part, row, len(line)) for row, line in enumerate(board)])


def row_by_parts(board):
    numbers = [1]
    for part in parts_of(board):
        numbers = product_of(numbers, row_of(board_of_part(board, part)))
    return numbers
