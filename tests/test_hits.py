import inspect
import itertools
import math
import unittest

from unstruck import hits
from unstruck.boards import exchanged, laid_over, mirrored, rest_of
from unstruck.hits import hits_of

SLANT = tuple("." * row + "x" + "." * (7 - row) for row in range(8))

BOARDS = (
    (".",),
    ("x",),
    ("........",),
    ("xxxxxxxx",),
    ("x.xx.x.x",),
    (".",) * 8,
    ("x",) * 8,
    ("x", ".", "x", "x"),
    ("xx", ".x"),
    ("x.x.", ".x.x", "x.x.", ".x.x"),
    ("x..x.", ".xx..", "..x.x", "xx...", "...xx"),
    ("xxxxx",) * 3,
    (".....",) * 3,
    ("xx..x.x.", "..x.xx.x", "x..x...x"),
    ("xx", "x.", ".x", "..", "xx"),
    ("xx.", "x.x", ".xx", "..x", "x..", "xxx", "..."),
)

GREAT = (
    ("........",) * 8,
    ("xxxxxxxx",) * 8,
    SLANT,
    rest_of(SLANT),
    ("xxx.x.xx", ".xx.xxx.", "x.xx.x.x", "xx.x..xx", ".x.xxx.x", "x.x.xx.x", "xx..x.xx", "..xxx.x."),
    ("x.x.x.x.", ".x.x.x.x", "xx......", "........", "xxxxxxxx", "..x..x..", "....x..."),
)


def all_boards(height, width):
    lines = ["".join(signs) for signs in itertools.product("x.", repeat=width)]
    return itertools.product(lines, repeat=height)


def full_placings(height, width):
    """All full placings, one by one; the lesser side's lines are all taken, each by one piece."""
    if height <= width:
        for columns in itertools.permutations(range(width), height):
            yield list(enumerate(columns))
    else:
        for rows in itertools.permutations(range(height), width):
            yield [(row, column) for column, row in enumerate(rows)]


def hits_one_by_one(board):
    counted = [0] * (min(len(board), len(board[0])) + 1)
    for placing in full_placings(len(board), len(board[0])):
        counted[sum(board[row][column] == "x" for row, column in placing)] += 1
    return counted


def all_full_placings(board):
    lesser, greater = sorted((len(board), len(board[0])))
    return math.factorial(greater) // math.factorial(greater - lesser)


class Interface(unittest.TestCase):
    def test_name_and_argument(self):
        self.assertEqual(list(inspect.signature(hits.hits_of).parameters), ["board"])


class Known(unittest.TestCase):
    def test_small_boards(self):
        for board, asked in (
            (("x",), [0, 1]),
            ((".",), [1, 0]),
            (("xx", ".x"), [0, 1, 1]),
            (("x.", ".x"), [1, 0, 1]),
            (("x.", ".."), [1, 1, 0]),
            (("x..",), [2, 1]),
            (("x", "x", "."), [1, 2]),
            (("x..", "..."), [4, 2, 0]),
            (("x..", ".x.", "..x"), [2, 3, 0, 1]),
        ):
            self.assertEqual(hits_of(board), asked, board)

    def test_the_slant_of_eight(self):
        asked = [14833, 14832, 7420, 2464, 630, 112, 28, 0, 1]
        self.assertEqual(hits_of(SLANT), asked)
        self.assertEqual(hits_of(SLANT[::-1]), asked)
        self.assertEqual(hits_of(rest_of(SLANT)), asked[::-1])

    def test_boards_without_cells_and_full_ones(self):
        for height, width in itertools.product(range(1, 9), repeat=2):
            empty = ("." * width,) * height
            full = ("x" * width,) * height
            noughts = [0] * min(height, width)
            self.assertEqual(hits_of(empty), [all_full_placings(empty)] + noughts, (height, width))
            self.assertEqual(hits_of(full), noughts + [all_full_placings(full)], (height, width))

    def test_boards_of_one_row_and_of_one_column(self):
        for width in range(1, 9):
            for line in itertools.product("x.", repeat=width):
                asked = [line.count("."), line.count("x")]
                self.assertEqual(hits_of(("".join(line),)), asked, line)
                self.assertEqual(hits_of(line), asked, line)


class OneByOne(unittest.TestCase):
    def test_small_boards(self):
        for height, width in itertools.product(range(1, 6), repeat=2):
            if height * width <= 10:
                for board in all_boards(height, width):
                    self.assertEqual(hits_of(board), hits_one_by_one(board), board)

    def test_more_rows_than_columns_and_the_other_way_round(self):
        for board in all_boards(3, 4):
            if board == tuple(sorted(board)):
                self.assertEqual(hits_of(board), hits_one_by_one(board), board)
                over = laid_over(board)
                self.assertEqual(hits_of(over), hits_one_by_one(over), over)

    def test_chosen_boards(self):
        for board in BOARDS + GREAT:
            self.assertEqual(hits_of(board), hits_one_by_one(board), board)


class Promises(unittest.TestCase):
    def test_as_many_as_the_lesser_side_and_one(self):
        for board in BOARDS + GREAT:
            self.assertEqual(len(hits_of(board)), min(len(board), len(board[0])) + 1, board)

    def test_the_last_ones_may_be_nought(self):
        self.assertEqual(hits_of(("x....", ".....", ".....", ".....")), [96, 24, 0, 0, 0])
        self.assertEqual(hits_of(("x..", "x..", "x..")), [0, 6, 0, 0])
        self.assertEqual(hits_of(("........",) * 8), [40320] + [0] * 8)

    def test_all_together(self):
        for board in BOARDS + GREAT:
            self.assertEqual(sum(hits_of(board)), all_full_placings(board), board)

    def test_the_rests_hits_are_these_from_the_last_on(self):
        for board in itertools.chain(BOARDS, GREAT, all_boards(3, 3), all_boards(2, 4), all_boards(4, 2)):
            self.assertEqual(hits_of(rest_of(board)), hits_of(board)[::-1], board)

    def test_boards_made_of_it_have_the_same(self):
        for board in BOARDS + GREAT:
            told = hits_of(board)
            rows = list(range(len(board)))
            columns = list(range(len(board[0])))
            self.assertEqual(hits_of(laid_over(board)), told, board)
            self.assertEqual(hits_of(mirrored(board)), told, board)
            self.assertEqual(hits_of(exchanged(board, rows[1:] + rows[:1], columns[::-1])), told, board)

    def test_kinds(self):
        for board in BOARDS + GREAT:
            told = hits_of(board)
            self.assertIs(type(told), list)
            self.assertEqual({type(number) for number in told}, {int})
            self.assertGreaterEqual(min(told), 0)

    def test_somewhat_greater_boards_are_not_refused(self):
        board = ("x........",) + (".........",) * 8
        self.assertEqual(hits_of(board), [8 * 40320, 40320] + [0] * 8)


class Steadiness(unittest.TestCase):
    def test_told_hits_are_the_askers_own(self):
        for board in BOARDS + GREAT:
            told = hits_of(board)
            asked = list(told)
            told[0] = None
            told.append(7)
            hits_of(("x.x", "xx."))
            hits_of((".",))
            again = hits_of(board)
            self.assertEqual(again, asked, board)
            again.clear()
            self.assertEqual(hits_of(board), asked, board)


if __name__ == "__main__":
    unittest.main()
