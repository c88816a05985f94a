"""The rows of a board, counted in several ways and of boards made of it, are one row."""

import itertools
import unittest

from unstruck.boards import exchanged, is_placing, laid_over, mirrored, rest_of
from unstruck.cellwise import row_by_cells
from unstruck.counting import rests_of, row_of
from unstruck.hits import hits_of
from unstruck.most import bare_of, most_of
from unstruck.parts import parts_of, product_of, row_by_parts
from unstruck.resting import full_number, row_of_rest

BOARDS = (
    (".",),
    ("x",),
    ("x.xx.x.x",),
    ("x", ".", "x", "x"),
    ("........",) * 8,
    ("xxxxxxxx",) * 8,
    ("x.x.x.x.", ".x.x.x.x") * 4,
    ("xxx.....", "xxx.....", "...x....", "....xx..", "....x...", "......xx", "......x.", "........"),
    ("xxx.x.xx", ".xx.xxx.", "x.xx.x.x", "xx.x..xx", ".x.xxx.x", "x.x.xx.x", "xx..x.xx", "..xxx.x."),
    ("x......x", ".x....x.", "..x..x..", "...xx...", "...xx...", "..x..x..", ".x....x.", "x......x"),
    ("xx..", "x.x.", ".x.x"),
    ("xx", "x.", ".x", "..", "xx"),
    ("x..", "xx.", "xxx"),
)


def small_boards():
    for height, width in itertools.product(range(1, 5), repeat=2):
        if height * width <= 8:
            lines = ["".join(signs) for signs in itertools.product("x.", repeat=width)]
            yield from itertools.product(lines, repeat=height)


def orders(size):
    if size <= 3:
        return [list(order) for order in itertools.permutations(range(size))]
    there = list(range(size))
    return [there, there[::-1], there[1:] + there[:1], there[::2] + there[1::2], [1, 0] + there[2:]]


def beside(one, other):
    """The one board above to the left, the other below to the right, sharing neither row nor column."""
    above = tuple(line + "." * len(other[0]) for line in one)
    below = tuple("." * len(one[0]) + line for line in other)
    return above + below


class Ways(unittest.TestCase):
    def test_by_cells_and_by_parts(self):
        for board in itertools.chain(BOARDS, small_boards()):
            row = row_of(board)
            self.assertEqual(row_by_parts(board), row, board)
            if "".join(board).count("x") <= 12:
                self.assertEqual(row_by_cells(board), row, board)

    def test_rests_are_those_of_the_row(self):
        for board in BOARDS:
            self.assertEqual(rests_of(board, 11), [number % 11 for number in row_by_parts(board)], board)


    def test_by_the_rest_in_the_full_board(self):
        for board in itertools.chain(BOARDS, small_boards()):
            numbers = row_of(rest_of(board))
            self.assertEqual(row_of_rest(len(board), len(board[0]), numbers), row_of(board), board)


class Most(unittest.TestCase):
    def test_the_rows_last_number_stands_at_the_most(self):
        for board in itertools.chain(BOARDS, small_boards()):
            asked = len(row_of(board)) - 1
            placing, rows, columns = most_of(board)
            self.assertTrue(is_placing(board, placing), board)
            self.assertEqual(len(placing), asked, board)
            self.assertEqual(len(rows) + len(columns), asked, board)
            for row, line in enumerate(board):
                for column, sign in enumerate(line):
                    self.assertTrue(sign == "." or row in rows or column in columns, board)

    def test_a_bare_part_shows_the_same_most(self):
        for board in itertools.chain(BOARDS, small_boards()):
            rows, columns = bare_of(board)
            shown = len(board) + len(board[0]) - len(rows) - len(columns)
            self.assertEqual(shown, len(row_of(board)) - 1, board)

    def test_of_boards_made_of_it(self):
        for board in BOARDS:
            asked = len(most_of(board)[0])
            for made in (laid_over(board), mirrored(board), laid_over(mirrored(board))):
                self.assertEqual(len(most_of(made)[0]), asked, made)


class Hits(unittest.TestCase):
    def test_all_together_are_the_full_placings(self):
        for board in itertools.chain(BOARDS, small_boards()):
            height, width = len(board), len(board[0])
            self.assertEqual(sum(hits_of(board)), full_number(height, width, min(height, width)), board)

    def test_all_pieces_on_cells_and_all_on_holes(self):
        for board in itertools.chain(BOARDS, small_boards()):
            size = min(len(board), len(board[0]))
            told = hits_of(board)
            for hit, row in ((told[-1], row_of(board)), (told[0], row_of(rest_of(board)))):
                self.assertEqual(hit, row[size] if size < len(row) else 0, board)


class Steadiness(unittest.TestCase):
    def test_each_question_has_the_same_answer_each_time(self):
        def answers(board):
            row = row_of_rest(len(board), len(board[0]), row_of(rest_of(board)))
            return [row, hits_of(board), most_of(board), bare_of(board)]

        first = [answers(board) for board in BOARDS]
        for row, hits, most, bare in [answers(board) for board in BOARDS]:
            for told in (row, hits, most[1], most[2], bare[0], bare[1]):
                told.append(99)
                told[0] = None
        self.assertEqual([answers(board) for board in BOARDS[::-1]], first[::-1])


class MadeBoards(unittest.TestCase):
    def assert_same_row(self, board, made):
        row = row_of(board)
        self.assertEqual(row_of(made), row, (board, made))
        self.assertEqual(row_by_parts(made), row, (board, made))
        if "".join(board).count("x") <= 12:
            self.assertEqual(row_by_cells(made), row, (board, made))

    def test_laid_over_and_mirrored(self):
        for board in itertools.chain(BOARDS, small_boards()):
            self.assert_same_row(board, laid_over(board))
            self.assert_same_row(board, mirrored(board))
            self.assert_same_row(board, laid_over(mirrored(board)))

    def test_exchanged(self):
        for board in BOARDS:
            for rows, columns in itertools.product(orders(len(board)), orders(len(board[0]))):
                self.assert_same_row(board, exchanged(board, rows, columns))


class Parts(unittest.TestCase):
    def test_rows_are_multiplied(self):
        small = [board for board in BOARDS if len(board) <= 4 and len(board[0]) <= 4]
        for one, other in itertools.product(small, repeat=2):
            both = beside(one, other)
            product = product_of(row_of(one), row_of(other))
            self.assertEqual(row_of(both), product, both)
            self.assertEqual(row_by_parts(both), product, both)
            self.assertEqual(len(parts_of(both)), len(parts_of(one)) + len(parts_of(other)), both)

    def test_also_where_their_lines_stand_mixed(self):
        both = exchanged(beside(("xx", ".x"), ("xxx", "x.x")), [2, 0, 3, 1], [4, 0, 2, 1, 3])
        self.assertEqual(row_of(both), product_of([1, 3, 1], [1, 5, 4]))
        self.assertEqual(row_by_parts(both), [1, 8, 20, 17, 4])


if __name__ == "__main__":
    unittest.main()
