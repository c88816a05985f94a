"""The rows of a board, counted in several ways and of boards made of it, are one row."""

import itertools
import unittest

from unstruck.boards import exchanged, laid_over, mirrored
from unstruck.cellwise import row_by_cells
from unstruck.counting import rests_of, row_of
from unstruck.parts import parts_of, product_of, row_by_parts

BOARDS = (
    (".",),
    ("x",),
    ("x.xx.x.x",),
    ("x", ".", "x", "x"),
    ("........",) * 8,
    ("xxxxxxxx",) * 8,
    ("x.x.x.x.", ".x.x.x.x") * 4,
    ("xxx.....", "xxx.....", "...x....", "....xx..", "....x...", "......xx", "......x.", "........"),
    ("xxx.x.xx", ".xx.xxx.", "x.xx.x.x", "xx.x..xx", ".x.xxx.x", "x.x.xx.x", "xx..x.xx", "..xxx.x."),
    ("x......x", ".x....x.", "..x..x..", "...xx...", "...xx...", "..x..x..", ".x....x.", "x......x"),
    ("xx..", "x.x.", ".x.x"),
    ("xx", "x.", ".x", "..", "xx"),
    ("x..", "xx.", "xxx"),
)


def small_boards():
    for height, width in itertools.product(range(1, 5), repeat=2):
        if height * width <= 8:
            lines = ["".join(signs) for signs in itertools.product("x.", repeat=width)]
            yield from itertools.product(lines, repeat=height)


def orders(size):
    if size <= 3:
        return [list(order) for order in itertools.permutations(range(size))]
    there = list(range(size))
    return [there, there[::-1], there[1:] + there[:1], there[::2] + there[1::2], [1, 0] + there[2:]]


def beside(one, other):
    """The one board above to the left, the other below to the right, sharing neither row nor column."""
    above = tuple(line + "." * len(other[0]) for line in one)
    below = tuple("." * len(one[0]) + line for line in other)
    return above + below


class Ways(unittest.TestCase):
    def test_by_cells_and_by_parts(self):
        for board in itertools.chain(BOARDS, small_boards()):
            row = row_of(board)
            self.assertEqual(row_by_parts(board), row, board)
            if "".join(board).count("x") <= 12:
                self.assertEqual(row_by_cells(board), row, board)

    def test_rests_are_those_of_the_row(self):
        for board in BOARDS:
            self.assertEqual(rests_of(board, 11), [number % 11 for number in row_by_parts(board)], board)


class MadeBoards(unittest.TestCase):
    def assert_same_row(self, board, made):
        row = row_of(board)
        self.assertEqual(row_of(made), row, (board, made))
        self.assertEqual(row_by_parts(made), row, (board, made))
        if "".join(board).count("x") <= 12:
            self.assertEqual(row_by_cells(made), row, (board, made))

    def test_laid_over_and_mirrored(self):
        for board in itertools.chain(BOARDS, small_boards()):
            self.assert_same_row(board, laid_over(board))
            self.assert_same_row(board, mirrored(board))
            self.assert_same_row(board, laid_over(mirrored(board)))

    def test_exchanged(self):
        for board in BOARDS:
            for rows, columns in itertools.product(orders(len(board)), orders(len(board[0]))):
                self.assert_same_row(board, exchanged(board, rows, columns))


class Parts(unittest.TestCase):
    def test_rows_are_multiplied(self):
        small = [board for board in BOARDS if len(board) <= 4 and len(board[0]) <= 4]
        for one, other in itertools.product(small, repeat=2):
            both = beside(one, other)
            product = product_of(row_of(one), row_of(other))
            self.assertEqual(row_of(both), product, both)
            self.assertEqual(row_by_parts(both), product, both)
            self.assertEqual(len(parts_of(both)), len(parts_of(one)) + len(parts_of(other)), both)

    def test_also_where_their_lines_stand_mixed(self):
        both = exchanged(beside(("xx", ".x"), ("xxx", "x.x")), [2, 0, 3, 1], [4, 0, 2, 1, 3])
        self.assertEqual(row_of(both), product_of([1, 3, 1], [1, 5, 4]))
        self.assertEqual(row_by_parts(both), [1, 8, 20, 17, 4])


if __name__ == "__main__":
    unittest.main()
