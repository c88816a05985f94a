import inspect
import itertools
import unittest

from unstruck import most
from unstruck.boards import exchanged, is_placing, laid_over, mirrored, rest_of
from unstruck.counting import row_of
from unstruck.most import bare_of, most_of

# In each row the next piece takes the first free column, till the last row asks for the one taken first.
CHAIN = tuple("." * row + "xx" + "." * (6 - row) for row in range(7)) + ("x.......",)
SLANT = tuple("." * row + "x" + "." * (7 - row) for row in range(8))
STAIR = tuple("x" * size + "." * (8 - size) for size in range(1, 9))

# Each with the most pieces, as it was seen by hand.
KNOWN = (
    # Without cells, and of one cell.
    ((".",), 0),
    (("........",), 0),
    ((".",) * 8, 0),
    (("........",) * 8, 0),
    (("x",), 1),
    (("........",) * 7 + (".......x",), 1),
    (("...", "x..", "..."), 1),
    ((".", ".", "x", "."), 1),
    # Full ones.
    (("xxxxxxxx",), 1),
    (("x",) * 8, 1),
    (("xxx",) * 2, 2),
    (("xx",) * 3, 2),
    (("xxxxxxxx",) * 3, 3),
    (("xxx",) * 8, 3),
    (("xxxxxxxx",) * 8, 8),
    # A first choice of cells must be changed.
    (("xx", "x."), 2),
    (("xx", ".x"), 2),
    (("x.", "xx"), 2),
    (("xx.", "x.x", "x.."), 3),
    (("xx..", ".xx.", "..xx", "x..."), 4),
    (("xxx", "xx.", "x.."), 3),
    (("xxxx....", "x.......", ".x......", "..x....."), 4),
    (CHAIN, 8),
    (CHAIN[::-1], 8),
    (mirrored(CHAIN), 8),
    (STAIR, 8),
    (STAIR[::-1], 8),
    # A change helps one row, yet not all.
    (("xx...", "x....", ".x...", "..xxx"), 3),
    (("xx", "x.", ".x"), 2),
    (("xxx", "x..", "x..", "x.."), 2),
    (("x...", "x...", "x...", "xxxx"), 2),
    # A change that leads astray in one part of the board, and one that helps in another.
    (("xx......", "xx......", "xx......", "..xx....", "..x....."), 4),
    (("xx......", "xx......", "xx.x....", "..xxx...", "..x....."), 5),
    # A cross: all cells lie on one row and one column.
    (("...x....", "...x....", "xxxxxxxx", "...x....", "...x....", "...x....", "...x....", "...x...."), 2),
    # Parts between each other's lines.
    (("x.x", ".x.", "x.x"), 3),
    (("x.x.x", ".x.x.", "x.x.x", ".x...", "....."), 4),
    (("x.x.x.x.", ".x.x.x.x") * 4, 8),
    (("x.x.x.x.", ".x......", "x.x.x.x.", ".x......", "x.......", ".x......", "x.......", ".x......"), 4),
    (("..x", "xx.", "..x"), 2),
    (("...x", "x...", "...x", ".x.."), 3),
    # More rows than columns, and the other way round.
    (("xx", "x.", ".x", "..", "xx"), 2),
    (("x..", "x..", "x..", ".x.", ".x.", "x.."), 2),
    (("xxx..x..", "...xx...", "......x."), 3),
    (("x...x..x", "........", "x......."), 2),
    (SLANT, 8),
    (rest_of(SLANT), 8),
    (("xxx.x.xx", ".xx.xxx.", "x.xx.x.x", "xx.x..xx", ".x.xxx.x", "x.x.xx.x", "xx..x.xx", "..xxx.x."), 8),
    (("xxxx....",) * 3 + ("....xxxx",) * 5, 7),
    (("xx......",) * 6 + ("xxxxxxxx",) * 2, 4),
)


def all_boards(height, width):
    lines = ["".join(signs) for signs in itertools.product("x.", repeat=width)]
    return itertools.product(lines, repeat=height)


def small_boards():
    for height, width in itertools.product(range(1, 6), repeat=2):
        if height * width <= 12:
            yield from all_boards(height, width)


def great_boards():
    """Boards of many shapes by a plain rule, so that they are the same each time."""
    number = 1
    for height, width in itertools.product(range(4, 9), repeat=2):
        for share in (2, 3, 4, 6):
            lines = []
            for row in range(height):
                signs = ""
                for column in range(width):
                    number = (number * 1103515245 + 12345) % 2 ** 31
                    signs += "x" if (number >> 16) % share == 0 else "."
                lines.append(signs)
            yield tuple(lines)


def made_of(board):
    rows = list(range(len(board)))
    columns = list(range(len(board[0])))
    yield laid_over(board)
    yield mirrored(board)
    yield board[::-1]
    yield exchanged(board, rows[1:] + rows[:1], columns[::2] + columns[1::2])


def cells_in(board):
    return [(row, column) for row, line in enumerate(board) for column, sign in enumerate(line) if sign == "x"]


class Told(unittest.TestCase):
    def assert_lines(self, lines, size, board):
        self.assertIs(type(lines), list, board)
        self.assertEqual(lines, sorted(set(lines)), board)
        for number in lines:
            self.assertIs(type(number), int, board)
            self.assertTrue(0 <= number < size, board)

    def assert_most(self, board, asked):
        told = most_of(board)
        self.assertIs(type(told), tuple, board)
        self.assertEqual(len(told), 3, board)
        placing, rows, columns = told
        self.assertIs(type(placing), tuple, board)
        for cell in placing:
            self.assertIs(type(cell), tuple, board)
            self.assertEqual([type(number) for number in cell], [int, int], board)
        self.assertTrue(is_placing(board, placing), board)
        self.assertEqual(list(placing), sorted(placing), board)
        self.assert_lines(rows, len(board), board)
        self.assert_lines(columns, len(board[0]), board)
        for row, column in cells_in(board):
            self.assertTrue(row in rows or column in columns, board)
        self.assertEqual(len(placing), asked, board)
        self.assertEqual(len(rows) + len(columns), asked, board)

    def assert_bare(self, board, asked):
        told = bare_of(board)
        self.assertIs(type(told), tuple, board)
        self.assertEqual(len(told), 2, board)
        rows, columns = told
        self.assert_lines(rows, len(board), board)
        self.assert_lines(columns, len(board[0]), board)
        for row, column in itertools.product(rows, columns):
            self.assertEqual(board[row][column], ".", board)
        self.assertEqual(len(board) + len(board[0]) - len(rows) - len(columns), asked, board)


class Interface(unittest.TestCase):
    def test_names_and_arguments(self):
        for name in ("most_of", "bare_of"):
            self.assertEqual(list(inspect.signature(getattr(most, name)).parameters), ["board"], name)


class MostOf(Told):
    def test_known_boards(self):
        for board, asked in KNOWN:
            self.assert_most(board, asked)

    def test_boards_made_of_them(self):
        for board, asked in KNOWN:
            for made in made_of(board):
                self.assert_most(made, asked)

    def test_small_boards_against_the_rows_last_place(self):
        for board in small_boards():
            self.assert_most(board, len(row_of(board)) - 1)

    def test_great_boards_against_the_rows_last_place(self):
        for board in great_boards():
            asked = len(row_of(board)) - 1
            self.assert_most(board, asked)
            for made in made_of(board):
                self.assert_most(made, asked)

    def test_without_cells(self):
        for height, width in itertools.product(range(1, 9), repeat=2):
            self.assertEqual(most_of(("." * width,) * height), ((), [], []))

    def test_full_boards(self):
        for height, width in itertools.product(range(1, 9), repeat=2):
            self.assert_most(("x" * width,) * height, min(height, width))

    def test_each_single_cell(self):
        for row, column in itertools.product(range(8), repeat=2):
            line = "." * column + "x" + "." * (7 - column)
            board = ("........",) * row + (line,) + ("........",) * (7 - row)
            self.assert_most(board, 1)
            self.assertEqual(most_of(board)[0], ((row, column),))

    def test_each_order_of_rows_of_the_chain(self):
        board = ("xx...", ".xx..", "..xx.", "...xx", "x....")
        for rows in itertools.permutations(board):
            self.assert_most(rows, 5)

    def test_somewhat_greater_boards_are_not_refused(self):
        self.assert_most(tuple("." * row + "xx" + "." * (9 - row) for row in range(10)) + ("x..........",), 11)


class BareOf(Told):
    def test_known_boards(self):
        for board, asked in KNOWN:
            self.assert_bare(board, asked)

    def test_boards_made_of_them(self):
        for board, asked in KNOWN:
            for made in made_of(board):
                self.assert_bare(made, asked)

    def test_small_boards_against_the_rows_last_place(self):
        for board in small_boards():
            self.assert_bare(board, len(row_of(board)) - 1)

    def test_great_boards_against_the_rows_last_place(self):
        for board in great_boards():
            asked = len(row_of(board)) - 1
            self.assert_bare(board, asked)
            for made in made_of(board):
                self.assert_bare(made, asked)

    def test_without_cells(self):
        for height, width in itertools.product(range(1, 9), repeat=2):
            self.assertEqual(bare_of(("." * width,) * height), (list(range(height)), list(range(width))))

    def test_full_boards(self):
        for height, width in itertools.product(range(1, 9), repeat=2):
            self.assert_bare(("x" * width,) * height, min(height, width))

    def test_somewhat_greater_boards_are_not_refused(self):
        self.assert_bare(tuple("." * row + "xx" + "." * (9 - row) for row in range(10)) + ("x..........",), 11)


class Steadiness(Told):
    def test_told_lines_are_the_askers_own(self):
        for ask in (most_of, bare_of):
            for board, size in KNOWN:
                told = ask(board)
                asked = tuple(part if isinstance(part, tuple) else list(part) for part in told)
                for lines in told[-2:]:
                    lines.append(99)
                    lines[0] = None
                ask(("x.x", "xx."))
                ask((".",))
                again = ask(board)
                self.assertEqual(again, asked, board)
                for lines in again[-2:]:
                    lines.clear()
                self.assertEqual(ask(board), asked, board)

    def test_no_list_is_told_twice(self):
        for board, size in KNOWN:
            told = [most_of(board), most_of(board), bare_of(board), bare_of(board)]
            lists = [lines for one in told for lines in one[-2:]]
            self.assertEqual(len({id(lines) for lines in lists}), 8, board)

    def test_what_one_is_told_leaves_the_other(self):
        for board, size in KNOWN:
            bare = bare_of(board)
            told = most_of(board)
            told[1].extend([5, 6, 7])
            told[2].clear()
            self.assertEqual(bare_of(board), bare, board)
            self.assert_most(board, size)


if __name__ == "__main__":
    unittest.main()
