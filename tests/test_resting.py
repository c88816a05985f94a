import inspect
import itertools
import math
import unittest

from unstruck import resting
from unstruck.boards import laid_over, rest_of
from unstruck.counting import row_of
from unstruck.resting import full_number, row_of_rest

FULL_ROW = [1, 64, 1568, 18816, 117600, 376320, 564480, 322560, 40320]

BOARDS = (
    (".",),
    ("x",),
    ("........",),
    ("xxxxxxxx",),
    ("x.xx.x.x",),
    (".",) * 8,
    ("x",) * 8,
    ("x", ".", "x", "x"),
    ("........",) * 8,
    ("xxxxxxxx",) * 8,
    (".......x",) + ("........",) * 7,
    ("xxxxxxx.",) + ("xxxxxxxx",) * 7,
    ("x.x.x.x.", ".x.x.x.x") * 4,
    ("xxx.x.xx", ".xx.xxx.", "x.xx.x.x", "xx.x..xx", ".x.xxx.x", "x.x.xx.x", "xx..x.xx", "..xxx.x."),
    ("x.......", ".x......", "..x.....", "...x....", "....x...", ".....x..", "......x.", ".......x"),
    ("xxxxx",) * 3,
    (".....",) * 3,
    ("xx..x.x.", "..x.xx.x", "x..x...x"),
    ("xx", "x.", ".x", "..", "xx"),
    ("xx.", "x.x", ".xx", "..x", "x..", "xxx", "..."),
)


def all_boards(height, width):
    lines = ["".join(signs) for signs in itertools.product("x.", repeat=width)]
    return itertools.product(lines, repeat=height)


def row_told(board, numbers):
    return row_of_rest(len(board), len(board[0]), numbers)


def placings_one_by_one(rows, columns, size):
    """How many choices of so many rows there are, each with so many columns in some order."""
    chosen = itertools.combinations(range(rows), size)
    return sum(len(list(itertools.permutations(range(columns), size))) for some in chosen)


class Interface(unittest.TestCase):
    def test_names_and_arguments(self):
        asked = {"full_number": ["rows", "columns", "size"], "row_of_rest": ["rows", "columns", "numbers"]}
        for name, arguments in asked.items():
            self.assertEqual(list(inspect.signature(getattr(resting, name)).parameters), arguments, name)


class FullNumber(unittest.TestCase):
    ALL = tuple(itertools.product(range(9), repeat=3))

    def test_known_numbers(self):
        for rows, columns, size, asked in (
            (0, 0, 0, 1),
            (0, 0, 1, 0),
            (0, 8, 1, 0),
            (1, 1, 1, 1),
            (2, 2, 1, 4),
            (2, 2, 2, 2),
            (2, 3, 2, 6),
            (3, 3, 2, 18),
            (3, 8, 3, 336),
            (8, 8, 7, 322560),
            (8, 8, 8, 40320),
        ):
            self.assertEqual(full_number(rows, columns, size), asked, (rows, columns, size))

    def test_by_the_documents_words(self):
        for rows, columns, size in self.ALL:
            asked = math.comb(rows, size) * math.comb(columns, size) * math.factorial(size)
            self.assertEqual(full_number(rows, columns, size), asked, (rows, columns, size))

    def test_one_by_one(self):
        for rows, columns, size in itertools.product(range(5), repeat=3):
            asked = placings_one_by_one(rows, columns, size)
            self.assertEqual(full_number(rows, columns, size), asked, (rows, columns, size))

    def test_size_nought(self):
        for rows, columns in itertools.product(range(9), repeat=2):
            self.assertEqual(full_number(rows, columns, 0), 1, (rows, columns))

    def test_sizes_greater_than_a_side(self):
        for rows, columns, size in self.ALL:
            if size > min(rows, columns):
                self.assertEqual(full_number(rows, columns, size), 0, (rows, columns, size))
            else:
                self.assertGreater(full_number(rows, columns, size), 0, (rows, columns, size))

    def test_rows_and_columns_exchanged(self):
        for rows, columns, size in self.ALL:
            self.assertEqual(full_number(rows, columns, size), full_number(columns, rows, size))

    def test_against_the_rows_of_full_boards(self):
        for rows, columns in itertools.product(range(1, 9), repeat=2):
            row = row_of(("x" * columns,) * rows)
            told = [full_number(rows, columns, size) for size in range(9)]
            self.assertEqual(told, row + [0] * (9 - len(row)), (rows, columns))

    def test_kinds(self):
        for rows, columns, size in self.ALL:
            self.assertIs(type(full_number(rows, columns, size)), int)

    def test_somewhat_greater_numbers_are_not_refused(self):
        self.assertEqual(full_number(9, 10, 9), 3628800)
        self.assertEqual(full_number(8, 8, 9), 0)
        self.assertEqual(full_number(10, 1, 1), 10)


class RowOfRest(unittest.TestCase):
    def test_known_rows(self):
        for rows, columns, numbers, asked in (
            (1, 1, [1], [1, 1]),
            (1, 1, [1, 1], [1]),
            (2, 2, [1], [1, 4, 2]),
            (2, 2, [1, 1], [1, 3, 1]),
            (2, 2, [1, 2], [1, 2]),
            (2, 2, [1, 2, 1], [1, 2, 1]),
            (2, 2, [1, 3, 1], [1, 1]),
            (2, 2, [1, 4, 2], [1]),
            (1, 8, [1, 5], [1, 3]),
            (8, 1, [1, 5], [1, 3]),
            (2, 3, [1, 3], [1, 3]),
            (3, 3, [1, 3, 3, 1], [1, 6, 9, 2]),
            (8, 8, [1], FULL_ROW),
            (8, 8, FULL_ROW, [1]),
            (8, 8, [1, 8, 28, 56, 70, 56, 28, 8, 1], [1, 56, 1204, 12712, 70070, 198184, 263284, 133496, 14833]),
        ):
            self.assertEqual(row_of_rest(rows, columns, numbers), asked, (rows, columns, numbers))

    def test_of_the_rest_and_back(self):
        for board in BOARDS:
            self.assertEqual(row_told(board, row_of(rest_of(board))), row_of(board), board)
            self.assertEqual(row_told(board, row_of(board)), row_of(rest_of(board)), board)
            self.assertEqual(row_told(board, row_told(board, row_of(board))), row_of(board), board)

    def test_small_boards(self):
        for height, width in itertools.product(range(1, 6), repeat=2):
            if height * width <= 10:
                for board in all_boards(height, width):
                    self.assertEqual(row_told(board, row_of(rest_of(board))), row_of(board), board)

    def test_without_cells_and_full(self):
        for rows, columns in itertools.product(range(1, 9), repeat=2):
            full = row_of(("x" * columns,) * rows)
            self.assertEqual(row_of_rest(rows, columns, [1]), full, (rows, columns))
            self.assertEqual(row_of_rest(rows, columns, full), [1], (rows, columns))

    def test_rows_and_columns_exchanged(self):
        for board in BOARDS:
            numbers = row_of(board)
            over = laid_over(board)
            self.assertEqual(row_told(over, numbers), row_told(board, numbers), board)

    def test_noughts_at_the_end_are_left_out(self):
        for board in itertools.chain(BOARDS, all_boards(3, 3)):
            told = row_told(board, row_of(board))
            self.assertGreater(told[-1], 0, board)
            self.assertEqual(told[0], 1, board)
        self.assertEqual(row_of_rest(3, 3, row_of(("xx.", "xxx", "xxx"))), [1, 1])
        self.assertEqual(row_of_rest(3, 3, row_of(("...", "xxx", "xxx"))), [1, 3])

    def test_kinds(self):
        for board in BOARDS:
            told = row_told(board, row_of(board))
            self.assertIs(type(told), list)
            self.assertEqual({type(number) for number in told}, {int})

    def test_somewhat_greater_boards_are_not_refused(self):
        board = tuple("." * row + "x" + "." * (8 - row) for row in range(9))
        self.assertEqual(row_told(board, row_of(board)), row_of(rest_of(board)))


class Steadiness(unittest.TestCase):
    def test_the_list_handed_in_stays(self):
        for board in BOARDS:
            numbers = row_of(board)
            before = list(numbers)
            row_told(board, numbers)
            self.assertEqual(numbers, before, board)

    def test_what_is_told_is_not_what_is_handed_in(self):
        # The row is that of the rest, too, so that the list itself would be the right answer.
        numbers = [1, 2, 1]
        told = row_of_rest(2, 2, numbers)
        self.assertEqual(told, numbers)
        self.assertIsNot(told, numbers)
        told.append(7)
        self.assertEqual(numbers, [1, 2, 1])
        again = row_of_rest(2, 2, numbers)
        numbers.clear()
        self.assertEqual(again, [1, 2, 1])

    def test_told_rows_are_the_askers_own(self):
        for board in BOARDS:
            numbers = row_of(rest_of(board))
            asked = row_of(board)
            told = row_told(board, numbers)
            told[0] = None
            told.append(7)
            row_of_rest(2, 3, [1, 1])
            row_of_rest(8, 8, [1])
            self.assertEqual(row_told(board, numbers), asked, board)
            again = row_told(board, numbers)
            again.clear()
            self.assertEqual(row_told(board, numbers), asked, board)

    def test_full_numbers_stay_the_same(self):
        asked = [full_number(rows, 7, 3) for rows in range(9)]
        row_of_rest(8, 7, [1, 2])
        self.assertEqual([full_number(rows, 7, 3) for rows in range(9)], asked)


if __name__ == "__main__":
    unittest.main()
