import inspect
import itertools
import math
import unittest

from unstruck import counting
from unstruck.counting import rests_of, row_of

FULL = ("x" * 8,) * 8
FULL_ROW = [1, 64, 1568, 18816, 117600, 376320, 564480, 322560, 40320]

# Each row was counted by hand.
KNOWN = (
    (("x",), [1, 1]),
    (("xx", ".x"), [1, 3, 1]),
    (("x.", ".x"), [1, 2, 1]),
    (("xx", "xx"), [1, 4, 2]),
    (("x..", ".x.", "..x"), [1, 3, 3, 1]),
    (("xxx", "xxx", "xxx"), [1, 9, 18, 6]),
    (("x..", "xx.", "xxx"), [1, 6, 7, 1]),
    (("xx.", "x.x", ".xx"), [1, 6, 9, 2]),
    (("xxx", "xxx"), [1, 6, 6]),
    (("xx", "xx", "xx"), [1, 6, 6]),
)

# The greatest size is less than the lesser side.
SHORT = (
    (("xxx", "x..", "x.."), [1, 5, 4]),
    (("xxxx", "....", "....", "...."), [1, 4]),
    (("x...", "x...", "x...", "x..."), [1, 4]),
    (("...", ".x.", "..."), [1, 1]),
    ((".x..", "xxxx", ".x.."), [1, 6, 6]),
    (("........",) * 3 + ("...x....", "xxxxxxxx") + ("...x....",) * 3, [1, 12, 28]),
)

VARIED = (
    ("xxx.x.xx", ".xx.xxx.", "x.xx.x.x", "xx.x..xx", ".x.xxx.x", "x.x.xx.x", "xx..x.xx", "..xxx.x."),
    ("xxxxxxxx", "x......x", "x.xxxx.x", "x.x..x.x", "x.x..x.x", "x.xxxx.x", "x......x", "xxxxxxxx"),
    ("x.x.x.x.", ".x.x.x.x"),
    ("x.", ".x", "xx", "..", "x.", ".x", "xx"),
)


def all_boards(height, width):
    lines = ["".join(signs) for signs in itertools.product("x.", repeat=width)]
    return itertools.product(lines, repeat=height)


def strikes(one, other):
    return one[0] == other[0] or one[1] == other[1]


def row_one_by_one(board):
    cells = [(row, column) for row, line in enumerate(board) for column, sign in enumerate(line) if sign == "x"]
    row = []
    for size in range(min(len(board), len(board[0])) + 1):
        pieces = itertools.combinations(cells, size)
        row.append(sum(not any(strikes(*pair) for pair in itertools.combinations(some, 2)) for some in pieces))
    return [number for number in row if number]


def full_row(height, width):
    sizes = range(min(height, width) + 1)
    return [math.comb(height, size) * math.comb(width, size) * math.factorial(size) for size in sizes]


class Interface(unittest.TestCase):
    def test_names_and_arguments(self):
        for name, arguments in (("row_of", ["board"]), ("rests_of", ["board", "divisor"])):
            self.assertEqual(list(inspect.signature(getattr(counting, name)).parameters), arguments, name)


class RowOf(unittest.TestCase):
    def test_known_rows(self):
        for board, row in KNOWN + SHORT:
            self.assertEqual(row_of(board), row, board)

    def test_without_cells(self):
        for height, width in itertools.product(range(1, 9), repeat=2):
            row = row_of(("." * width,) * height)
            self.assertEqual(row, [1], (height, width))
            self.assertEqual((type(row), type(row[0])), (list, int))

    def test_one_cell_anywhere(self):
        for row, column in itertools.product(range(8), repeat=2):
            lines = ["........"] * 8
            lines[row] = "." * column + "x" + "." * (7 - column)
            self.assertEqual(row_of(tuple(lines)), [1, 1], (row, column))

    def test_one_row_and_one_column(self):
        for size in range(1, 9):
            for signs in itertools.product("x.", repeat=size):
                asked = [1, signs.count("x")] if "x" in signs else [1]
                self.assertEqual(row_of(("".join(signs),)), asked, signs)
                self.assertEqual(row_of(tuple(signs)), asked, signs)

    def test_full_boards(self):
        for height, width in itertools.product(range(1, 9), repeat=2):
            self.assertEqual(row_of(("x" * width,) * height), full_row(height, width), (height, width))
        self.assertEqual(row_of(FULL), FULL_ROW)

    def test_one_cell_in_each_row_and_column(self):
        for size in range(1, 9):
            board = tuple("." * row + "x" + "." * (size - 1 - row) for row in range(size))
            self.assertEqual(row_of(board), [math.comb(size, k) for k in range(size + 1)])

    def test_eight_by_eight_with_none_on_the_slant(self):
        # Placings of eight off the slant are the orders of eight things in which none stays at its place.
        board = tuple("x" * row + "." + "x" * (7 - row) for row in range(8))
        row = row_of(board)
        self.assertEqual(len(row), 9)
        self.assertEqual((row[0], row[1], row[8]), (1, 56, 14833))

    def test_small_boards_one_by_one(self):
        sides = [(height, width) for height in range(1, 5) for width in range(1, 5) if height * width <= 9]
        for height, width in sides:
            for board in all_boards(height, width):
                self.assertEqual(row_of(board), row_one_by_one(board), board)

    def test_greater_boards_one_by_one(self):
        for board in (
            ("x.x.", "xxx.", ".xx.", "..xx"),
            ("xx..x", ".x.x.", "x.x..", "..xxx", "x...x"),
            ("x.x.x.x", ".xx.x..", "x..x.xx"),
            ("x.x", ".x.", "xx.", ".xx", "x..", ".x.", "..x", "x.x"),
            ("x......x", ".x....x.", "..x..x..", "...xx...", "...xx...", "..x..x..", ".x....x.", "x......x"),
        ):
            self.assertEqual(row_of(board), row_one_by_one(board), board)

    def test_what_holds_of_every_row(self):
        boards = [board for board, row in KNOWN + SHORT] + list(VARIED) + [FULL]
        for board in boards:
            row = row_of(board)
            cells = "".join(board).count("x")
            self.assertIs(type(row), list)
            self.assertEqual({type(number) for number in row}, {int}, board)
            self.assertEqual(row[:2], [1, cells], board)
            self.assertGreater(min(row), 0, board)
            self.assertLessEqual(len(row), min(len(board), len(board[0])) + 1, board)

    def test_somewhat_greater_boards_are_not_refused(self):
        self.assertEqual(row_of(("x" * 9,) * 10), full_row(10, 9))
        self.assertEqual(row_of(("x" * 10,) * 9), full_row(9, 10))


class RestsOf(unittest.TestCase):
    BOARDS = [board for board, row in KNOWN + SHORT] + list(VARIED) + [FULL, (".",), ("..", "..", "..")]

    def test_known_rests(self):
        self.assertEqual(rests_of(FULL, 2), [1, 0, 0, 0, 0, 0, 0, 0, 0])
        self.assertEqual(rests_of(FULL, 7), [1, 1, 0, 0, 0, 0, 0, 0, 0])
        self.assertEqual(rests_of(FULL, 1000), [1, 64, 568, 816, 600, 320, 480, 560, 320])
        self.assertEqual(rests_of(("xxx", "xxx", "xxx"), 5), [1, 4, 3, 1])
        self.assertEqual(rests_of(("x", "x"), 2), [1, 0])

    def test_noughts_at_the_end_stay(self):
        self.assertEqual(rests_of(("xx", "xx"), 2), [1, 0, 0])
        self.assertEqual(rests_of(("xxx", "xxx", "xxx"), 3), [1, 0, 0, 0])

    def test_without_cells(self):
        for divisor in (2, 3, 10 ** 9):
            self.assertEqual(rests_of(("....", "...."), divisor), [1])

    def test_by_the_rows_own_numbers(self):
        for number in FULL_ROW[1:]:
            rests = rests_of(FULL, number)
            self.assertEqual(rests, [other % number for other in FULL_ROW], number)
            self.assertEqual(rests[FULL_ROW.index(number)], 0)
        self.assertEqual(rests_of(("xxx", "xxx", "xxx"), 18), [1, 9, 0, 6])

    def test_by_one_more_and_one_less_than_the_greatest(self):
        self.assertEqual(rests_of(FULL, 564481), FULL_ROW)
        self.assertEqual(rests_of(FULL, 564479), FULL_ROW[:6] + [1] + FULL_ROW[7:])

    def test_by_a_number_greater_than_all(self):
        for board in self.BOARDS:
            self.assertEqual(rests_of(board, 10 ** 9), row_of(board), board)

    def test_what_holds_of_all_rests(self):
        for board in self.BOARDS:
            row = row_of(board)
            for divisor in (2, 3, 4, 10, 97, 1024, 40320, 10 ** 9 - 1, 10 ** 9):
                rests = rests_of(board, divisor)
                self.assertIs(type(rests), list)
                self.assertEqual({type(number) for number in rests}, {int})
                self.assertEqual(len(rests), len(row), (board, divisor))
                for rest, number in zip(rests, row):
                    self.assertTrue(0 <= rest < divisor, (board, divisor))
                    self.assertEqual((number - rest) % divisor, 0, (board, divisor))

    def test_somewhat_beyond_is_not_refused(self):
        self.assertEqual(rests_of(("xx", "xx"), 10 ** 9 + 7), [1, 4, 2])
        self.assertEqual(rests_of(("xx", "xx"), 1), [0, 0, 0])


class Steadiness(unittest.TestCase):
    def test_told_lists_are_the_askers_own(self):
        for ask in (row_of, lambda board: rests_of(board, 10 ** 9)):
            for board, row in KNOWN + SHORT + ((FULL, FULL_ROW), ((".",), [1])):
                told = ask(board)
                told[0] = None
                told.append(7)
                ask(("x.x", "xx."))
                ask(("..",))
                self.assertEqual(ask(board), row, board)
                again = ask(board)
                again.clear()
                self.assertEqual(ask(board), row, board)

    def test_a_changed_row_changes_no_rests(self):
        told = row_of(FULL)
        told[1] = 0
        self.assertEqual(rests_of(FULL, 1000)[1], 64)
        rests = rests_of(FULL, 10 ** 9)
        rests.clear()
        self.assertEqual(row_of(FULL), FULL_ROW)

    def test_the_same_question_has_the_same_answer(self):
        rounds = []
        for turn in range(2):
            rounds.append([(row_of(board), rests_of(board, 5)) for board in VARIED + (FULL,)])
        self.assertEqual(rounds[0], rounds[1])


if __name__ == "__main__":
    unittest.main()
