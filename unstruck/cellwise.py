"""The row of a board by cells: each cell is left out, or taken with its row and column."""

from unstruck.boards import cells_of
from unstruck.errors import TooGreat
from unstruck.reckoning import number_at

MOST_CELLS = 12


def not_struck_by(cell, cells):
    return [other for other in cells if other[0] != cell[0] and other[1] != cell[1]]


def sum_of(one, other):
    return [number_at(one, place) + number_at(other, place) for place in range(max(len(one), len(other)))]


def row_of_cells(cells):
    if len(cells) == 0:
        return [1]
    left_out = row_of_cells(cells[1:])
    taken = row_of_cells(not_struck_by(cells[0], cells))
    # The piece on the cell makes each placing greater by one.
    return sum_of(left_out, [0] + taken)


def row_by_cells(board):
    cells = cells_of(board)
    if len(cells) > MOST_CELLS:
        raise TooGreat()
    return row_of_cells(cells)
