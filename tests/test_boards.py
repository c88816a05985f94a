import inspect
import itertools
import unittest

from unstruck import boards
from unstruck.boards import cells_of, exchanged, is_board, is_placing, laid_over, mirrored, rest_of

BOARDS = (
    ("x",),
    (".",),
    ("x.xx.x.x",),
    ("........",),
    ("x", ".", "x", "x", ".", "x", ".", "x"),
    ("xxxxxxxx",) * 8,
    ("........",) * 8,
    ("x.......",) + ("........",) * 6 + (".......x",),
    ("xx", ".x"),
    ("x.", "xx", ".."),
    ("x.x", ".xx"),
    ("....", "....", "...."),
    ("x..x.", ".xx..", "...xx"),
)

NO_BOARDS = (
    ["xx", ".x"],
    [],
    (),
    ("x",) * 9,
    ("",),
    ("", ""),
    ("x", ""),
    ("x" * 9,),
    ("." * 9,) * 8,
    ("xx", "x"),
    ("x", "xx"),
    ("xx", "xx", "x"),
    (["x"],),
    ("x", ["x"]),
    (["x", "."], ["x", "."]),
    (("x", "."),),
    (None,),
    ("x", None),
    (1,),
    (0,),
    ("x", 1),
    (True,),
    (False,),
    ("x", True),
    ({"x": "x"},),
    ({"x"},),
    (b"x",),
    ("X",),
    ("o",),
    ("xo",),
    ("x.", ".o"),
    (" ",),
    ("x ",),
    ("x\n",),
    ("x\n.",),
    ("x.\n", "x.\n"),
    ("0",),
    ("~",),
    "x",
    "xx\n.x",
    "",
    0,
    1,
    8,
    -1,
    1.5,
    True,
    False,
    None,
    {},
    {"x": "."},
    {0: "x"},
    {"x"},
    b"x",
    object(),
    str,
)


def all_boards(height, width):
    lines = ["".join(signs) for signs in itertools.product("x.", repeat=width)]
    return list(itertools.product(lines, repeat=height))


def small_boards():
    sides = range(1, 4)
    return [board for height in sides for width in sides for board in all_boards(height, width)]


class Interface(unittest.TestCase):
    def test_names_and_arguments(self):
        asked = {
            "is_board": ["thing"],
            "cells_of": ["board"],
            "laid_over": ["board"],
            "mirrored": ["board"],
            "rest_of": ["board"],
            "exchanged": ["board", "rows", "columns"],
            "is_placing": ["board", "thing"],
        }
        for name, arguments in asked.items():
            self.assertEqual(list(inspect.signature(getattr(boards, name)).parameters), arguments, name)


class IsBoard(unittest.TestCase):
    def test_true_of_boards(self):
        for board in BOARDS:
            self.assertIs(is_board(board), True, board)

    def test_true_of_every_size(self):
        for height in range(1, 9):
            for width in range(1, 9):
                for sign in "x.":
                    self.assertIs(is_board((sign * width,) * height), True, (height, width, sign))

    def test_sizes_beyond(self):
        for side in (0, 9, 10, 100):
            for other in (1, 8):
                self.assertIs(is_board(("x" * side,) * other), False, (other, side))
                self.assertIs(is_board(("x" * other,) * side), False, (side, other))

    def test_false_of_whatever_else(self):
        for thing in NO_BOARDS:
            self.assertIs(is_board(thing), False, repr(thing))

    def test_every_sign_but_two_is_refused(self):
        for code in list(range(32, 127)) + [10]:
            sign = chr(code)
            self.assertIs(is_board((sign,)), sign in ("x", "."), repr(sign))
            self.assertIs(is_board(("x.", "." + sign)), sign in ("x", "."), repr(sign))


class CellsOf(unittest.TestCase):
    def test_in_order(self):
        self.assertEqual(cells_of(("x..x.", ".xx..", "...xx")), [(0, 0), (0, 3), (1, 1), (1, 2), (2, 3), (2, 4)])
        self.assertEqual(cells_of(("x.", "xx", "..")), [(0, 0), (1, 0), (1, 1)])

    def test_one_row_and_one_column(self):
        self.assertEqual(cells_of(("x.xx.x.x",)), [(0, 0), (0, 2), (0, 3), (0, 5), (0, 7)])
        self.assertEqual(cells_of((".", "x", "x")), [(1, 0), (2, 0)])
        self.assertEqual(cells_of(("x",)), [(0, 0)])

    def test_without_cells(self):
        for board in ((".",), ("........",) * 8, ("..", "..", "..")):
            self.assertEqual(cells_of(board), [])

    def test_with_cells_alone(self):
        self.assertEqual(cells_of(("x" * 8,) * 8), [(row, column) for row in range(8) for column in range(8)])
        self.assertEqual(cells_of(("xx", "xx", "xx")), [(0, 0), (0, 1), (1, 0), (1, 1), (2, 0), (2, 1)])

    def test_kinds(self):
        for board in BOARDS:
            cells = cells_of(board)
            self.assertIs(type(cells), list)
            for cell in cells:
                self.assertIs(type(cell), tuple)
                self.assertEqual([type(number) for number in cell], [int, int])

    def test_just_the_cells_of_small_boards(self):
        for board in small_boards():
            places = itertools.product(range(len(board)), range(len(board[0])))
            self.assertEqual(cells_of(board), [place for place in places if board[place[0]][place[1]] == "x"])

    def test_somewhat_greater_boards_are_not_refused(self):
        self.assertEqual(len(cells_of(("x" * 9,) * 10)), 90)


class MadeBoards(unittest.TestCase):
    def assert_board(self, told, asked):
        self.assertEqual(told, asked)
        self.assertIs(type(told), tuple)
        self.assertEqual({type(line) for line in told}, {str})

    def test_laid_over(self):
        self.assert_board(laid_over(("x.x", ".xx")), ("x.", ".x", "xx"))
        self.assert_board(laid_over(("xx.",)), ("x", "x", "."))
        self.assert_board(laid_over(("x", ".", ".")), ("x..",))
        self.assert_board(laid_over(("x",)), ("x",))
        self.assert_board(laid_over(("xxxxxxxx", "........")), ("x.",) * 8)

    def test_mirrored(self):
        self.assert_board(mirrored(("xx.", "..x")), (".xx", "x.."))
        self.assert_board(mirrored(("x", ".")), ("x", "."))
        self.assert_board(mirrored(("x.......",)), (".......x",))
        self.assert_board(mirrored(("x.", "..", "..")), (".x", "..", ".."))

    def test_rest(self):
        self.assert_board(rest_of(("xx.", "..x")), ("..x", "xx."))
        self.assert_board(rest_of(("x" * 8,) * 8), ("." * 8,) * 8)
        self.assert_board(rest_of((".", "x", ".")), ("x", ".", "x"))

    def test_exchanged(self):
        self.assert_board(exchanged(("xx.", "..x"), [1, 0], [0, 1, 2]), ("..x", "xx."))
        # Three in a round tell order[k] from its reverse.
        self.assert_board(exchanged(("x..", ".x.", "..x"), [1, 2, 0], [0, 1, 2]), (".x.", "..x", "x.."))
        self.assert_board(exchanged(("x..", "xx.", "xxx"), [0, 1, 2], [1, 2, 0]), ("..x", "x.x", "xxx"))
        self.assert_board(exchanged(("x.xx",), [0], [1, 3, 0, 2]), (".xxx",))
        self.assert_board(exchanged(("x", ".", "."), [2, 0, 1], [0]), (".", "x", "."))

    def test_exchanged_place_by_place(self):
        board = ("x.x.", ".xx.", "x..x")
        for rows in itertools.permutations(range(3)):
            for columns in itertools.permutations(range(4)):
                told = exchanged(board, list(rows), list(columns))
                for row, column in itertools.product(range(3), range(4)):
                    self.assertEqual(told[row][column], board[rows[row]][columns[column]])

    def test_orders_stay_as_they_were(self):
        rows = [2, 0, 1]
        columns = [1, 0]
        exchanged(("x.", "xx", ".x"), rows, columns)
        self.assertEqual((rows, columns), ([2, 0, 1], [1, 0]))

    def test_all_are_boards(self):
        for board in BOARDS:
            rows = list(range(len(board)))[::-1]
            columns = list(range(len(board[0])))[::-1]
            for told in (laid_over(board), mirrored(board), rest_of(board), exchanged(board, rows, columns)):
                self.assertIs(is_board(told), True, (board, told))

    def test_there_and_back(self):
        for board in list(BOARDS) + small_boards():
            for make in (laid_over, mirrored, rest_of):
                self.assertEqual(make(make(board)), board, (make, board))

    def test_places_go_where_they_ought(self):
        for board in list(BOARDS) + small_boards():
            height = len(board)
            width = len(board[0])
            cells = cells_of(board)
            places = set(itertools.product(range(height), range(width)))
            self.assertEqual(cells_of(laid_over(board)), sorted((column, row) for row, column in cells))
            self.assertEqual((len(laid_over(board)), len(laid_over(board)[0])), (width, height))
            self.assertEqual(cells_of(mirrored(board)), sorted((row, width - 1 - column) for row, column in cells))
            self.assertEqual(cells_of(rest_of(board)), sorted(places - set(cells)))
            same = exchanged(board, list(range(height)), list(range(width)))
            self.assertEqual(same, board)
            turned = exchanged(board, list(range(height)), list(range(width))[::-1])
            self.assertEqual(turned, mirrored(board))


def plainly_a_placing(board, pairs):
    cells = set(cells_of(board))
    if any(pair not in cells for pair in pairs) or list(pairs) != sorted(pairs):
        return False
    return all(one[0] != other[0] and one[1] != other[1] for one, other in itertools.combinations(pairs, 2))


class IsPlacing(unittest.TestCase):
    BOARD = ("xx.", "x.x", ".xx")

    def test_true_of_placings(self):
        for placing in (
            (),
            ((0, 0),),
            ((2, 2),),
            ((0, 1), (1, 0)),
            ((0, 0), (2, 1)),
            ((0, 0), (1, 2), (2, 1)),
            ((0, 1), (1, 0), (2, 2)),
        ):
            self.assertIs(is_placing(self.BOARD, placing), True, placing)

    def test_empty_one_on_every_board(self):
        for board in BOARDS:
            self.assertIs(is_placing(board, ()), True, board)

    def test_eight_pieces(self):
        board = ("x" * 8,) * 8
        self.assertIs(is_placing(board, tuple((k, 7 - k) for k in range(8))), True)
        self.assertIs(is_placing(board, tuple((k, k // 2) for k in range(8))), False)

    def test_false_of_whatever_else(self):
        for thing in (
            [],
            [(0, 0)],
            [(0, 0), (1, 2)],
            ((1, 0), (0, 1)),
            ((0, 0), (2, 1), (1, 2)),
            ((0, 0), (0, 0)),
            ((0, 0), (0, 1)),
            ((0, 1), (0, 0)),
            ((0, 0), (1, 0)),
            ((0, 1), (1, 0), (2, 1)),
            ((0, 2),),
            ((0, 0), (1, 1)),
            ((3, 0),),
            ((0, 3),),
            ((0, 8),),
            ((10 ** 30, 0),),
            ((0, 10 ** 30),),
            ((-1, 1),),
            ((0, -2),),
            ((-3, -3),),
            ((False, 0),),
            ((0, False),),
            ((0, True),),
            ((True, 0),),
            ((0, 0), (True, 2)),
            ([0, 0],),
            ((0, 0), [1, 2]),
            ((0, 0, 0),),
            ((0,),),
            ((),),
            ((0, 0), ()),
            (0, 0),
            (0,),
            (None,),
            ((None, 0),),
            ((0, None),),
            (("0", "0"),),
            ((0.0, 0),),
            ((0, 0.0),),
            (([0], 0),),
            ((0, [0]),),
            (((0,), 0),),
            ("00",),
            ({0: 0, 1: 0},),
            "",
            "x",
            "00",
            0,
            1,
            1.5,
            True,
            False,
            None,
            {},
            {(0, 0): True},
            {(0, 0)},
            object(),
        ):
            self.assertIs(is_placing(self.BOARD, thing), False, repr(thing))

    def test_beyond_boards_that_are_not_square(self):
        self.assertIs(is_placing(("xxx",), ((0, 2),)), True)
        self.assertIs(is_placing(("xxx",), ((2, 0),)), False)
        self.assertIs(is_placing(("x", "x", "x"), ((2, 0),)), True)
        self.assertIs(is_placing(("x", "x", "x"), ((0, 2),)), False)

    def test_no_cell_no_placing_but_the_empty_one(self):
        board = ("...", "...")
        for place in itertools.product(range(-1, 4), repeat=2):
            self.assertIs(is_placing(board, (place,)), False)

    def test_all_tuples_of_up_to_three_places(self):
        places = list(itertools.product(range(-1, 4), range(-1, 3)))
        for board in (("x.", "xx", ".x"), ("xx", "xx", "xx")):
            for size in range(4):
                for pairs in itertools.product(places, repeat=size):
                    self.assertIs(is_placing(board, pairs), plainly_a_placing(board, pairs), (board, pairs))


class Steadiness(unittest.TestCase):
    def test_told_list_is_the_askers_own(self):
        board = ("x.x", ".xx")
        asked = [(0, 0), (0, 2), (1, 1), (1, 2)]
        told = cells_of(board)
        told.append((7, 7))
        told[0] = None
        self.assertEqual(cells_of(("xx", "..")), [(0, 0), (0, 1)])
        self.assertEqual(cells_of(board), asked)
        again = cells_of(board)
        again.clear()
        self.assertEqual(cells_of(board), asked)

    def test_an_empty_list_is_the_askers_own_too(self):
        told = cells_of((".",))
        told.append((0, 0))
        self.assertEqual(cells_of((".",)), [])
        self.assertEqual(cells_of(("..", "..")), [])

    def test_lists_told_are_unlike(self):
        first = cells_of(("x",))
        self.assertIsNot(first, cells_of(("x",)))

    def test_what_is_handed_in_stays(self):
        lines = ["x.", "xx"]
        pairs = [(0, 0), (1, 1)]
        nested = ([0, 0],)
        table = {0: "x"}
        for thing in (lines, pairs, nested, table):
            is_board(thing)
            is_placing(("x.", "xx"), thing)
        self.assertEqual((lines, pairs, nested, table), (["x.", "xx"], [(0, 0), (1, 1)], ([0, 0],), {0: "x"}))

    def test_the_same_question_has_the_same_answer(self):
        rounds = []
        for turn in range(2):
            answers = []
            for board in BOARDS:
                rows = list(range(len(board)))[::-1]
                columns = list(range(len(board[0])))
                answers.append(is_board(board))
                answers.append(cells_of(board))
                answers.append(laid_over(board))
                answers.append(mirrored(board))
                answers.append(rest_of(board))
                answers.append(exchanged(board, rows, columns))
                answers.append(is_placing(board, ((0, 0),)))
            rounds.append(answers)
        self.assertEqual(rounds[0], rounds[1])


if __name__ == "__main__":
    unittest.main()
