import inspect
import itertools
import math
import unittest

from unstruck import order
from unstruck.counting import row_of
from unstruck.errors import NoPlacing
from unstruck.order import next_placing, number_of, placing_at

FULL = ("xxxxxxxx",) * 8
EMPTY = ("........",) * 8
SLANT = tuple("." * row + "x" + "." * (7 - row) for row in range(8))
FAR = 10 ** 40

GREAT = (
    FULL,
    EMPTY,
    SLANT,
    SLANT[::-1],
    ("x.x.x.x.", ".x.x.x.x") * 4,
    ("xxx.x.xx", ".xx.xxx.", "x.xx.x.x", "xx.x..xx", ".x.xxx.x", "x.x.xx.x", "xx..x.xx", "..xxx.x."),
    ("........", "..x..x..", "........", "xxxxxxxx", "x.......", "........", ".......x", "........"),
    ("xxxxxxxx",) * 3,
    ("xxx",) * 8,
    ("x.xx.x.x",),
    ("x", ".", "x", "x", ".", "x", ".", "x"),
)

BOARD = ("xx.", "x.x", ".xx")

NO_PLACINGS = (
    # Lists, of cells and of other things.
    [],
    [(0, 0)],
    [(0, 0), (1, 2)],
    # Out of order, a cell twice, two of a row, two of a column.
    ((1, 0), (0, 1)),
    ((0, 0), (2, 1), (1, 2)),
    ((0, 0), (0, 0)),
    ((0, 0), (0, 1)),
    ((0, 1), (0, 0)),
    ((0, 0), (1, 0)),
    ((0, 1), (1, 0), (2, 1)),
    # Holes, places beyond, numbers below 0.
    ((0, 2),),
    ((0, 0), (1, 1)),
    ((3, 0),),
    ((0, 3),),
    ((FAR, 0),),
    ((0, FAR),),
    ((-1, 1),),
    ((0, -2),),
    ((-3, -3),),
    ((0, 0), (1, -1)),
    # Truths for numbers.
    ((False, 0),),
    ((0, False),),
    ((0, True),),
    ((True, 0),),
    ((0, 0), (True, 2)),
    # What is no pair of numbers.
    ((0, 0, 0),),
    ((0, 0), (1, 2, 0)),
    ((0,),),
    ((),),
    ([0, 0],),
    ((0, 0), [1, 2]),
    ("00",),
    ((0, 0), "12"),
    ({0: 0, 1: 0},),
    (0, 0),
    (None,),
    ((None, 0),),
    ((0, "0"),),
    ((0.0, 0),),
    (([0], 0),),
    # Neither tuple nor list.
    None,
    "",
    "00",
    0,
    1,
    -1,
    1.5,
    True,
    False,
    {},
    {(0, 0): True},
    {(0, 0)},
    object(),
    tuple,
)


def all_boards(height, width):
    lines = ["".join(signs) for signs in itertools.product("x.", repeat=width)]
    return itertools.product(lines, repeat=height)


def small_boards():
    for height, width in itertools.product(range(1, 5), repeat=2):
        if height * width <= 8:
            yield from all_boards(height, width)


def cells_in(board):
    return [(row, column) for row, line in enumerate(board) for column, sign in enumerate(line) if sign == "x"]


def stands(cells):
    return all(one[0] != other[0] and one[1] != other[1] for one, other in itertools.combinations(cells, 2))


def placings_of(board):
    """For each size of which there is one, all placings in order; they are put together cell by cell."""
    cells = cells_in(board)
    told = []
    for size in range(min(len(board), len(board[0])) + 1):
        placings = sorted(chosen for chosen in itertools.combinations(cells, size) if stands(chosen))
        if placings:
            told.append(placings)
    return told


def placings_of_two(board):
    return sorted(pair for pair in itertools.combinations(cells_in(board), 2) if stands(pair))


class Asked(unittest.TestCase):
    def assert_placing(self, told, asked, board):
        self.assertEqual(told, asked, board)
        self.assertIs(type(told), tuple, board)
        for cell in told:
            self.assertIs(type(cell), tuple, board)
            self.assertEqual([type(number) for number in cell], [int, int], board)

    def assert_number(self, told, asked, board):
        self.assertEqual(told, asked, board)
        self.assertIs(type(told), int, board)

    def assert_in_order(self, board, placings):
        size = len(placings[0])
        for number, placing in enumerate(placings):
            self.assert_placing(placing_at(board, size, number), placing, board)
            self.assert_number(number_of(board, placing), number, board)
        for placing, after in itertools.pairwise(placings):
            self.assert_placing(next_placing(board, placing), after, board)
        self.assertIsNone(next_placing(board, placings[-1]), board)

    def assert_refused(self, ask, *things):
        with self.assertRaises(NoPlacing, msg=repr(things)) as taken:
            ask(*things)
        self.assertIs(type(taken.exception), NoPlacing)


class Interface(unittest.TestCase):
    def test_names_and_arguments(self):
        asked = {
            "placing_at": ["board", "size", "number"],
            "number_of": ["board", "placing"],
            "next_placing": ["board", "placing"],
        }
        for name, arguments in asked.items():
            self.assertEqual(list(inspect.signature(getattr(order, name)).parameters), arguments, name)


class Known(Asked):
    def test_a_small_board_written_out(self):
        self.assert_in_order(("xx", ".x"), [()])
        self.assert_in_order(("xx", ".x"), [((0, 0),), ((0, 1),), ((1, 1),)])
        self.assert_in_order(("xx", ".x"), [((0, 0), (1, 1))])

    def test_rows_are_left_out_too(self):
        self.assert_in_order(BOARD, [
            ((0, 0), (1, 2)), ((0, 0), (2, 1)), ((0, 0), (2, 2)),
            ((0, 1), (1, 0)), ((0, 1), (1, 2)), ((0, 1), (2, 2)),
            ((1, 0), (2, 1)), ((1, 0), (2, 2)), ((1, 2), (2, 1)),
        ])
        self.assert_in_order(BOARD, [((0, 0), (1, 2), (2, 1)), ((0, 1), (1, 0), (2, 2))])

    def test_a_first_cell_that_leads_nowhere_is_passed_by(self):
        self.assert_in_order(("xx.", "x..", "..x"), [((0, 1), (1, 0), (2, 2))])
        self.assert_in_order(("xxx", "x..", "x.."), [
            ((0, 1), (1, 0)), ((0, 1), (2, 0)), ((0, 2), (1, 0)), ((0, 2), (2, 0)),
        ])
        self.assert_in_order(("x...", "....", "xxx.", "xx.."), [
            ((0, 0), (2, 1)), ((0, 0), (2, 2)), ((0, 0), (3, 1)),
            ((2, 0), (3, 1)), ((2, 1), (3, 0)), ((2, 2), (3, 0)), ((2, 2), (3, 1)),
        ])
        self.assert_in_order(("x...", "....", "xxx.", "xx.."), [((0, 0), (2, 2), (3, 1))])

    def test_one_row_and_one_column(self):
        self.assert_in_order(("x.xx",), [((0, 0),), ((0, 2),), ((0, 3),)])
        self.assert_in_order((".", "x", ".", "x"), [((1, 0),), ((3, 0),)])


class SmallBoards(Asked):
    def test_all_numbers_of_all_sizes(self):
        for board in small_boards():
            for placings in placings_of(board):
                self.assert_in_order(board, placings)

    def test_refused_just_beyond_them(self):
        for board in small_boards():
            told = placings_of(board)
            for size, placings in enumerate(told):
                self.assert_refused(placing_at, board, size, len(placings))
                self.assert_refused(placing_at, board, size, -1)
            self.assert_refused(placing_at, board, len(told), 0)
            self.assert_refused(placing_at, board, -1, 0)

    def test_some_of_more_cells(self):
        for board in (
            ("xxxx", "xxxx", "xxxx", "xxxx"),
            ("xx..x", "x.xx.", ".x.xx", "x...x"),
            ("x.x", "xx.", ".xx", "xxx", "..x", "x.."),
            ("..x.x", ".....", "xxxxx", ".....", "x.x.."),
            ("xxxxx", "x....", "x....", "x....", "xxxxx"),
        ):
            for placings in placings_of(board):
                self.assert_in_order(board, placings)


class EmptyPlacing(Asked):
    def test_number_nought_and_nothing_behind_it(self):
        for board in itertools.chain(GREAT, small_boards()):
            self.assert_placing(placing_at(board, 0, 0), (), board)
            self.assert_number(number_of(board, ()), 0, board)
            self.assertIsNone(next_placing(board, ()), board)
            self.assert_refused(placing_at, board, 0, 1)

    def test_the_only_one_of_boards_without_cells(self):
        for height, width in itertools.product(range(1, 9), repeat=2):
            board = ("." * width,) * height
            self.assert_in_order(board, [()])
            self.assert_refused(placing_at, board, 1, 0)
            self.assert_refused(number_of, board, ((0, 0),))
            self.assert_refused(next_placing, board, ((0, 0),))


class GreatBoards(Asked):
    def test_sizes_one_and_two_whole(self):
        for board in GREAT:
            cells = [(cell,) for cell in cells_in(board)]
            pairs = placings_of_two(board)
            for placings in (cells, pairs):
                if placings:
                    self.assert_in_order(board, placings)

    def test_eight_pieces_stand_in_the_order_of_their_columns(self):
        columns = list(range(8))
        for number in (0, 1, 2, 5, 719, 720, 5039, 5040, 12345, 20160, 31415, 40318, 40319):
            left, free, chosen = number, list(columns), []
            for more in range(7, -1, -1):
                chosen.append(free.pop(left // math.factorial(more)))
                left %= math.factorial(more)
            placing = tuple(enumerate(chosen))
            self.assert_placing(placing_at(FULL, 8, number), placing, number)
            self.assert_number(number_of(FULL, placing), number, number)

    def test_the_next_ones_of_eight_pieces(self):
        orders = itertools.islice(itertools.permutations(range(8)), 1000)
        placings = [tuple(enumerate(columns)) for columns in orders]
        for placing, after in itertools.pairwise(placings):
            self.assert_placing(next_placing(FULL, placing), after, placing)
        last = tuple((row, 7 - row) for row in range(8))
        self.assertIsNone(next_placing(FULL, last))
        before = last[:6] + ((6, 0), (7, 1))
        self.assert_placing(next_placing(FULL, before), last, before)

    def test_seven_pieces_leave_a_row_and_a_column_out(self):
        first = tuple((row, row) for row in range(7))
        self.assert_placing(placing_at(FULL, 7, 0), first, FULL)
        self.assert_placing(placing_at(FULL, 7, 1), first[:6] + ((6, 7),), FULL)
        self.assert_placing(placing_at(FULL, 7, 2), first[:6] + ((7, 6),), FULL)
        last = tuple((row, 8 - row) for row in range(1, 8))
        self.assert_placing(placing_at(FULL, 7, 8 * 40320 - 1), last, FULL)
        self.assertIsNone(next_placing(FULL, last))

    def test_first_and_last_and_there_and_back(self):
        for board in GREAT:
            for size, many in enumerate(row_of(board)):
                for number in sorted({0, 1, many // 7, many // 3, many // 2, many - 2, many - 1} & set(range(many))):
                    placing = placing_at(board, size, number)
                    self.assertEqual(len(placing), size, board)
                    self.assertTrue(stands(placing), board)
                    self.assertTrue(set(placing) <= set(cells_in(board)), board)
                    self.assertEqual(list(placing), sorted(placing), board)
                    self.assert_number(number_of(board, placing), number, board)
                    after = placing_at(board, size, number + 1) if number + 1 < many else None
                    self.assertEqual(next_placing(board, placing), after, board)
                    if after is not None:
                        self.assertLess(placing, after, board)

    def test_a_slant_has_each_choice_of_its_cells(self):
        cells = [(row, row) for row in range(8)]
        for size in range(9):
            self.assert_in_order(SLANT, list(itertools.combinations(cells, size)))

    def test_somewhat_greater_boards_are_not_refused(self):
        board = ("xxxxxxxxxx",) * 9
        pairs = placings_of_two(board)
        for number in (0, 1, 1000, len(pairs) - 1):
            self.assert_placing(placing_at(board, 2, number), pairs[number], board)
            self.assert_number(number_of(board, pairs[number]), number, board)
        self.assert_placing(placing_at(board, 9, 0), tuple((row, row) for row in range(9)), board)


class Refused(Asked):
    def assert_good_question(self):
        self.assert_placing(placing_at(BOARD, 2, 4), ((0, 1), (1, 2)), BOARD)
        self.assert_number(number_of(BOARD, ((0, 1), (1, 2))), 4, BOARD)
        self.assert_placing(next_placing(BOARD, ((0, 1), (1, 2))), ((0, 1), (2, 2)), BOARD)

    def test_sizes(self):
        for size in (-1, -2, -3, -FAR, 4, 5, 8, 9, FAR):
            for number in (0, 1, -1, FAR, -FAR):
                self.assert_refused(placing_at, BOARD, size, number)
                self.assert_good_question()

    def test_numbers(self):
        for size, many in enumerate((1, 6, 9, 2)):
            for number in (-1, -2, -many, -many - 1, -FAR, many, many + 1, 2 * many, FAR):
                self.assert_refused(placing_at, BOARD, size, number)
                self.assert_good_question()

    def test_of_great_boards(self):
        for board in GREAT:
            row = row_of(board)
            for size, many in enumerate(row):
                for number in (many, many + 1, FAR, -1, -many, -FAR):
                    self.assert_refused(placing_at, board, size, number)
            for size in (len(row), 9, FAR, -1, -len(row), -FAR):
                self.assert_refused(placing_at, board, size, 0)
        self.assert_good_question()

    def test_what_is_no_placing(self):
        for thing in NO_PLACINGS:
            self.assert_refused(number_of, BOARD, thing)
            self.assert_good_question()
            self.assert_refused(next_placing, BOARD, thing)
            self.assert_good_question()

    def test_placings_of_other_boards(self):
        for ask in (number_of, next_placing):
            self.assert_refused(ask, ("xxx",), ((2, 0),))
            self.assert_refused(ask, ("x", "x", "x"), ((0, 2),))
            self.assert_refused(ask, FULL, ((8, 0),))
            self.assert_refused(ask, FULL, ((0, 8),))
            self.assert_refused(ask, FULL, tuple((row, row // 2) for row in range(8)))
            self.assert_refused(ask, SLANT, ((0, 0), (1, 2)))

    def test_all_tuples_of_up_to_two_places(self):
        board = ("x.", "xx", ".x")
        told = [placing for placings in placings_of(board) for placing in placings]
        places = list(itertools.product(range(-1, 4), range(-1, 3)))
        for size in range(3):
            for pairs in itertools.product(places, repeat=size):
                if pairs not in told:
                    self.assert_refused(number_of, board, pairs)
                    self.assert_refused(next_placing, board, pairs)


class Steadiness(Asked):
    def test_what_is_handed_in_stays(self):
        pairs = [(0, 0), (1, 2)]
        nested = ([0, 0], [1, 2])
        table = {(0, 0): True}
        for thing in (pairs, nested, table):
            self.assert_refused(number_of, BOARD, thing)
            self.assert_refused(next_placing, BOARD, thing)
        self.assertEqual((pairs, nested, table), ([(0, 0), (1, 2)], ([0, 0], [1, 2]), {(0, 0): True}))

    def test_the_same_question_has_the_same_answer(self):
        def answers(board):
            told = []
            for size, many in enumerate(row_of(board)):
                placing = placing_at(board, size, many // 2)
                told.append((placing, number_of(board, placing), next_placing(board, placing)))
                self.assert_refused(placing_at, board, size, many)
                self.assert_refused(next_placing, board, list(placing))
            return told

        first = [answers(board) for board in GREAT]
        self.assertEqual([answers(board) for board in GREAT[::-1]], first[::-1])


if __name__ == "__main__":
    unittest.main()
