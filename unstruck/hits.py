"""The hits of a board: how many full placings of the full board stand on just so many of its cells."""

from unstruck.counting import row_of
from unstruck.reckoning import falling, number_at, signed, ways


def hits_at(row, lesser, greater, hit):
    number = 0
    for size in range(hit, lesser + 1):
        # A placing of the board goes on to full placings; those that hit more are counted more than once.
        full = number_at(row, size) * falling(greater - size, lesser - size)
        number += signed(ways(size, hit) * full, size - hit)
    return number


def hits_of(board):
    lesser = min(len(board), len(board[0]))
    greater = max(len(board), len(board[0]))
    row = row_of(board)
    return [hits_at(row, lesser, greater, hit) for hit in range(lesser + 1)]
