import inspect
import itertools
import unittest

from unstruck import cellwise
from unstruck.cellwise import row_by_cells
from unstruck.counting import row_of
from unstruck.errors import TooGreat

TWELVE = (
    ("x.......", ".x......", "..x.....", "...x....", "....x...", ".....x..", "......x.", "x..xx.xx"),
    ("xxxxxxxx", "x.......", "x.......", "x.......", "x.......", "........", "........", "........"),
    ("xxx.....", "xxx.....", "........", "........", "........", "........", "......xx", "xxxx...."),
    ("x.....x.", "........", "..x..x..", "x......x", "........", ".x....x.", "..x..x..", "x......x"),
    (".......x", "......x.", ".....x..", "....x...", "...x....", "..x.....", ".x......", "xxxxx..."),
)


def board_with(cells, height=8, width=8):
    lines = []
    for row in range(height):
        lines.append("".join("x" if (row, column) in cells else "." for column in range(width)))
    return tuple(lines)


class Interface(unittest.TestCase):
    def test_names_and_arguments(self):
        self.assertEqual(list(inspect.signature(cellwise.row_by_cells).parameters), ["board"])


class RowByCells(unittest.TestCase):
    def test_known_rows(self):
        for board, row in (
            (("x",), [1, 1]),
            (("xx", ".x"), [1, 3, 1]),
            (("xxx", "xxx", "xxx"), [1, 9, 18, 6]),
            (("xxx", "x..", "x.."), [1, 5, 4]),
            (("xxxx", "xxxx", "xxxx"), [1, 12, 36, 24]),
            (("xx",) * 6, [1, 12, 30]),
            (("xxxxxx",) * 2, [1, 12, 30]),
        ):
            self.assertEqual(row_by_cells(board), row, board)

    def test_no_cell(self):
        for height, width in itertools.product(range(1, 9), repeat=2):
            self.assertEqual(row_by_cells(("." * width,) * height), [1], (height, width))

    def test_one_cell(self):
        for cell in itertools.product(range(8), repeat=2):
            self.assertEqual(row_by_cells(board_with([cell])), [1, 1], cell)

    def test_twelve_cells_on_eight_by_eight(self):
        for board in TWELVE:
            self.assertEqual("".join(board).count("x"), 12, board)
            self.assertEqual(row_by_cells(board), row_of(board), board)

    def test_all_boards_of_up_to_nine_places(self):
        for height, width in itertools.product(range(1, 9), repeat=2):
            if height * width <= 9:
                lines = ["".join(signs) for signs in itertools.product("x.", repeat=width)]
                for board in itertools.product(lines, repeat=height):
                    self.assertEqual(row_by_cells(board), row_of(board), board)

    def test_every_number_of_cells_up_to_twelve(self):
        # Steps of 11 and of 27 over the 64 places scatter the cells; steps of 1 and of 8 heap them on lines.
        for step, size in itertools.product((1, 8, 11, 27), range(13)):
            places = [(k * step) % 64 + (k * step) // 64 for k in range(size)]
            board = board_with([divmod(place % 64, 8) for place in places])
            self.assertEqual(row_by_cells(board), row_of(board), board)

    def test_kinds(self):
        for board in TWELVE + (("....",), ("x",)):
            row = row_by_cells(board)
            self.assertIs(type(row), list)
            self.assertEqual({type(number) for number in row}, {int})
            self.assertGreater(min(row), 0)

    def test_few_cells_on_a_somewhat_greater_board(self):
        board = ("x........",) + (".........",) * 8 + ("........x",)
        self.assertEqual(row_by_cells(board), [1, 2, 1])


class Refused(unittest.TestCase):
    def assert_too_great(self, board):
        with self.assertRaises(TooGreat, msg=board) as taken:
            row_by_cells(board)
        self.assertIs(type(taken.exception), TooGreat)

    def test_thirteen_cells(self):
        for board in TWELVE:
            places = list(itertools.product(range(8), repeat=2))
            cells = [place for place in places if board[place[0]][place[1]] == "x"]
            for place in places:
                if place not in cells:
                    self.assert_too_great(board_with(cells + [place]))

    def test_full_boards(self):
        for height, width in itertools.product(range(1, 9), repeat=2):
            board = ("x" * width,) * height
            if height * width > 12:
                self.assert_too_great(board)
            else:
                self.assertEqual(row_by_cells(board), row_of(board), board)

    def test_many_cells(self):
        self.assert_too_great(("x.x.x.x.", ".x.x.x.x") * 4)
        self.assert_too_great(("xxxxxxxx", "xxxxx..."))
        self.assert_too_great(("xx",) * 6 + (".x",))


class Steadiness(unittest.TestCase):
    def test_told_list_is_the_askers_own(self):
        for board in TWELVE + ((".",), ("x",), ("........",) * 8):
            asked = row_of(board)
            told = row_by_cells(board)
            told[0] = None
            told.append(7)
            row_by_cells(("x.x", "xx."))
            row_by_cells(("..",))
            self.assertEqual(row_by_cells(board), asked, board)
            again = row_by_cells(board)
            again.clear()
            self.assertEqual(row_by_cells(board), asked, board)

    def test_a_refusal_changes_no_answer(self):
        for turn in range(2):
            with self.assertRaises(TooGreat):
                row_by_cells(("x" * 8,) * 8)
            self.assertEqual(row_by_cells(("xx", ".x")), [1, 3, 1])


if __name__ == "__main__":
    unittest.main()
