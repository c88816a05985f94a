import inspect
import itertools
import unittest

from unstruck import strikes
from unstruck.counting import row_of
from unstruck.errors import TooGreat
from unstruck.strikes import all_placings, struck

KINDS = ("straight", "aslant", "all")
STEPS = {
    "straight": ((0, 1), (0, -1), (1, 0), (-1, 0)),
    "aslant": ((1, 1), (1, -1), (-1, 1), (-1, -1)),
}
STEPS["all"] = STEPS["straight"] + STEPS["aslant"]
FULL = ("xxxxxxxx",) * 8
EMPTY = ("........",) * 8

# A kind, a board and a size; how many placings of the sizes from 0 to it there are, and how many of it.
EDGES = (
    ("straight", (
        "x.......", ".......x", ".....x..", "xxx...x.", "...x....", "......x.", "x....x.x", ".x..xx.x",
    ), 5, 999, 265),
    ("straight", ("xxxxx..", "xx..x..", ".x.....", "xx..x..", "x...xx.", "......x", "x..x.x."), 4, 1000, 492),
    ("straight", ("xxx...", "..x.xx", "xx..x.", ".....x", "...x..", "..x.xx", "..xx..", ".....x"), 5, 1000, 200),
    ("straight", ("xxxxx.", "x.xxxx", ".x.x..", "x.x.x.", "x..x.x", ".....x"), 6, 1000, 12),
    ("straight", ("xxxxx.", "x.xxxx", ".x.x..", "x.x.x.", "x..x.x", ".....x"), 7, 1000, 0),
    ("straight", ("xxxxx.", "x.xxxx", ".x.x..", "x.x.x.", "x..x.x", ".....x"), 8, 1000, 0),
    ("straight", (
        "x.x.x.xx", "....x...", ".x..xx..", ".......x", "..xx....", "xx......", "x.....x.", "......x.",
    ), 4, 1001, 541),
    ("aslant", ("xxx.xx..", "x...x..x", ".x...xxx", "..x..x.x", ".x..x.xx", ".x.x...."), 3, 999, 799),
    ("aslant", ("xxxx", "xx.x", "x..x", "xxx.", "xxx."), 7, 999, 6),
    ("aslant", (".xx.xxx", "..xxx..", "x.xx.x.", ".x.xx..", "x.x..x."), 4, 1000, 504),
    ("aslant", ("x.x....", "xx.xx..", "xx..x..", "..xxxx.", ".xx...x"), 6, 1000, 56),
    ("aslant", ("x.x....", "xx.xx..", "xx..x..", "..xxxx.", ".xx...x"), 8, 1000, 0),
    ("aslant", (".x.xx...", "......x.", "xx......", "x....x.x", ".......x", "x......x"), 7, 1000, 56),
    ("aslant", (".xx.....", "..xxxxx.", "...x....", "xxxxx...", "....x...", "........"), 8, 1000, 2),
    ("aslant", ("xxxxx", "xxx.x", ".x..x", ".x..x", ".xxxx", "xxxx."), 3, 1001, 800),
    ("aslant", ("...xxxx.", "xxx.x.x.", "x.x..xx.", "..x.x.x."), 4, 1001, 565),
    ("aslant", ("..xx....", "x....x..", "....x..x", ".x.x....", "xxx.x..x"), 6, 1001, 161),
    ("all", ("xxxxxx",) * 5, 4, 999, 280),
    ("all", ("xxxxxx.x", "x...x.x.", "...xxx.x", ".xx....x", "xx..x.xx", ".x.....x", "xx....xx"), 3, 1000, 735),
    ("all", ("x..xx", "x.x.x", ".x.xx", "xx.xx", "xxxxx", "xxxxx", "xxxxx"), 5, 1000, 36),
    ("all", ("x..xx", "x.x.x", ".x.xx", "xx.xx", "xxxxx", "xxxxx", "xxxxx"), 8, 1000, 0),
    ("all", (
        "xx......", ".x..x..x", "...x....", "x.....xx", "..x...xx", "x.....x.", ".x.x....", "....xxx.",
    ), 7, 1000, 1),
    ("all", (".x.x.xx.", "..x...xx", "x....x.x", "xxx..xxx", "..xxxxx.", ".xxx....", "x.x.xx.."), 3, 1001, 737),
    ("all", ("x..xxx", "...xxx", "x..x.x", ".x.xxx", "x.x.xx", "xx...x", "xxxx.x"), 5, 1001, 43),
    ("all", ("xx.xxx", "x..x.x", ".....x", "xx..x.", "xxx...", "..x.x.", "xxx...", "xx...x"), 7, 1001, 0),
    ("all", ("xx.xxx", "x..x.x", ".....x", "xx..x.", "xxx...", "..x.x.", "xxx...", "xx...x"), 8, 1001, 0),
)

BOARDS = (
    ("x",),
    (".",),
    EMPTY,
    ("x.xx.x.x",),
    ("xxxxxxxx",),
    ("x",) * 8,
    ("xx", ".x"),
    ("xxxx", "xxxx"),
    ("xxx", "xxx", "xxx"),
    ("x.x.x", ".....", "x.x.x", ".....", "x.x.x"),
    ("x......x", "........", "........", "........", "........", "........", "........", "x......x"),
    ("x.......", "..x.....", "....x...", "......x.", ".x......", "...x....", ".....x..", ".......x"),
    ("...x....", ".......x", "........", "x..x....", "........", ".....x..", ".x......", "......x."),
)


def all_boards(height, width):
    lines = ["".join(signs) for signs in itertools.product("x.", repeat=width)]
    return itertools.product(lines, repeat=height)


def small_boards():
    for height, width in itertools.product(range(1, 4), repeat=2):
        yield from all_boards(height, width)
    yield from all_boards(1, 5)
    yield from all_boards(2, 4)
    yield from all_boards(4, 2)


def cells_in(board):
    return [(row, column) for row, line in enumerate(board) for column, sign in enumerate(line) if sign == "x"]


def walked(kind, cell):
    """The places that a piece on a cell of eight by eight strikes, by going along its lines."""
    places = set()
    for down, right in STEPS[kind]:
        row, column = cell[0] + down, cell[1] + right
        while 0 <= row < 8 and 0 <= column < 8:
            places.add((row, column))
            row, column = row + down, column + right
    return places


STRUCK = {
    (kind, cell): walked(kind, cell) for kind in KINDS for cell in itertools.product(range(8), repeat=2)
}


def stands(kind, cells):
    return not any(other in STRUCK[kind, one] for one, other in itertools.combinations(cells, 2))


def placings_of(kind, board, size):
    return sorted(chosen for chosen in itertools.combinations(cells_in(board), size) if stands(kind, chosen))


def how_many(kind, board):
    """How many placings there are of each size from 0 to 8, counted place by place."""
    many = [0] * 10

    def go(cells, size):
        many[size] += 1
        if size < 9:
            for place, cell in enumerate(cells):
                go([other for other in cells[place + 1:] if other not in STRUCK[kind, cell]], size + 1)

    go(cells_in(board), 0)
    return many[:9]


class Asked(unittest.TestCase):
    def assert_placings(self, told, asked, where):
        self.assertEqual(told, asked, where)
        self.assertIs(type(told), list, where)
        for placing in told:
            self.assertIs(type(placing), tuple, where)
            for cell in placing:
                self.assertIs(type(cell), tuple, where)
                self.assertEqual([type(number) for number in cell], [int, int], where)

    def assert_too_great(self, kind, board, size):
        with self.assertRaises(TooGreat, msg=(kind, board, size)) as taken:
            all_placings(kind, board, size)
        self.assertIs(type(taken.exception), TooGreat)


class Interface(unittest.TestCase):
    def test_names_and_arguments(self):
        asked = {"struck": ["kind", "one", "other"], "all_placings": ["kind", "board", "size"]}
        for name, arguments in asked.items():
            self.assertEqual(list(inspect.signature(getattr(strikes, name)).parameters), arguments, name)


class Struck(unittest.TestCase):
    def test_known_pairs(self):
        for one, other, straight, aslant in (
            ((0, 0), (0, 7), True, False),
            ((0, 0), (7, 0), True, False),
            ((3, 4), (3, 5), True, False),
            ((0, 0), (7, 7), False, True),
            ((0, 7), (7, 0), False, True),
            ((3, 4), (4, 3), False, True),
            ((5, 2), (2, 5), False, True),
            ((0, 0), (1, 2), False, False),
            ((0, 0), (2, 1), False, False),
            ((7, 0), (0, 6), False, False),
            ((1, 2), (2, 1), False, True),
            ((1, 3), (3, 1), False, True),
            ((2, 3), (3, 2), False, True),
        ):
            for pair in ((one, other), (other, one)):
                self.assertIs(struck("straight", *pair), straight, pair)
                self.assertIs(struck("aslant", *pair), aslant, pair)
                self.assertIs(struck("all", *pair), straight or aslant, pair)

    def test_all_pairs_against_a_walk(self):
        places = list(itertools.product(range(8), repeat=2))
        for kind in KINDS:
            for one, other in itertools.permutations(places, 2):
                self.assertIs(struck(kind, one, other), other in STRUCK[kind, one], (kind, one, other))

    def test_somewhat_beyond(self):
        self.assertIs(struck("aslant", (0, 0), (9, 9)), True)
        self.assertIs(struck("straight", (0, 0), (0, 9)), True)
        self.assertIs(struck("all", (0, 0), (9, 8)), False)


class AllPlacings(Asked):
    def test_known_ones(self):
        board = ("xx", "xx")
        self.assert_placings(all_placings("straight", board, 2), [((0, 0), (1, 1)), ((0, 1), (1, 0))], board)
        self.assert_placings(all_placings("aslant", board, 2), [
            ((0, 0), (0, 1)), ((0, 0), (1, 0)), ((0, 1), (1, 1)), ((1, 0), (1, 1)),
        ], board)
        self.assert_placings(all_placings("all", board, 2), [], board)
        board = ("xxxx",) * 4
        self.assert_placings(all_placings("all", board, 4), [
            ((0, 1), (1, 3), (2, 0), (3, 2)), ((0, 2), (1, 0), (2, 3), (3, 1)),
        ], board)

    def test_holes_stop_no_strike(self):
        board = ("x..x", "....", "....", "x..x")
        self.assert_placings(all_placings("straight", board, 2), [((0, 0), (3, 3)), ((0, 3), (3, 0))], board)
        self.assert_placings(all_placings("aslant", board, 2), [
            ((0, 0), (0, 3)), ((0, 0), (3, 0)), ((0, 3), (3, 3)), ((3, 0), (3, 3)),
        ], board)
        self.assert_placings(all_placings("all", board, 2), [], board)

    def test_small_boards_of_each_kind_and_size(self):
        for board in small_boards():
            for kind, size in itertools.product(KINDS, range(9)):
                self.assert_placings(all_placings(kind, board, size), placings_of(kind, board, size), (kind, board))

    def test_some_boards_of_each_kind_and_size(self):
        for board in BOARDS:
            for kind in KINDS:
                many = how_many(kind, board)
                for size in range(9):
                    if sum(many[:size + 1]) > 1000:
                        self.assert_too_great(kind, board, size)
                    else:
                        asked = placings_of(kind, board, size)
                        self.assertEqual(len(asked), many[size])
                        self.assert_placings(all_placings(kind, board, size), asked, (kind, board))

    def test_boards_without_cells(self):
        for height, width in itertools.product(range(1, 9), repeat=2):
            for kind in KINDS:
                board = ("." * width,) * height
                self.assert_placings(all_placings(kind, board, 0), [()], board)
                for size in range(1, 9):
                    self.assert_placings(all_placings(kind, board, size), [], board)

    def test_of_every_board_the_empty_one_and_the_cells(self):
        for kind in KINDS:
            for board in BOARDS + (FULL,):
                self.assert_placings(all_placings(kind, board, 0), [()], board)
                self.assert_placings(all_placings(kind, board, 1), [(cell,) for cell in cells_in(board)], board)

    def test_a_line_of_which_all_choices_stand(self):
        for board in (("xxxxxxxx",), ("x",) * 8):
            for size in range(9):
                asked = list(itertools.combinations(cells_in(board), size))
                self.assert_placings(all_placings("aslant", board, size), asked, board)

    def test_straight_ones_are_as_many_as_the_row_says(self):
        for board in itertools.chain(BOARDS, small_boards(), [edge[1] for edge in EDGES]):
            row = row_of(board)
            for size in range(9):
                if sum(row[:size + 1]) <= 1000:
                    asked = row[size] if size < len(row) else 0
                    self.assertEqual(len(all_placings("straight", board, size)), asked, board)
                else:
                    self.assert_too_great("straight", board, size)

    def test_somewhat_beyond_is_not_refused(self):
        self.assert_placings(all_placings("straight", ("xx", ".x"), 9), [], None)
        self.assert_placings(all_placings("all", ("xx", ".x"), -1), [], None)
        # Nine cells of which none strikes another aslant.
        line = tuple((0, column) for column in range(9))
        self.assert_placings(all_placings("aslant", ("xxxxxxxxx",), 9), [line], None)


class Great(Asked):
    def test_just_a_thousand_are_told(self):
        for kind, board, size, together, many in EDGES:
            counted = how_many(kind, board)
            self.assertEqual((sum(counted[:size + 1]), counted[size]), (together, many), (kind, board))
            if together > 1000:
                self.assert_too_great(kind, board, size)
            else:
                told = all_placings(kind, board, size)
                self.assertEqual(len(told), many, (kind, board))
                self.assertEqual(told, sorted(set(told)), (kind, board))
                for placing in told:
                    self.assertTrue(stands(kind, placing), (kind, board))
                    self.assertEqual(len(placing), size, (kind, board))
                    self.assertTrue(set(placing) <= set(cells_in(board)), (kind, board))

    def test_all_sizes_of_these_boards(self):
        for kind, board, told_size, together, many in EDGES:
            counted = how_many(kind, board)
            for size in range(9):
                if sum(counted[:size + 1]) > 1000:
                    self.assert_too_great(kind, board, size)
                else:
                    self.assertEqual(len(all_placings(kind, board, size)), counted[size], (kind, board))

    def test_a_size_without_any_is_refused_too(self):
        # Of the size itself there are none; those of the lesser sizes are too many.
        for kind, board, size in (("straight", ("xxxxxxxx",) * 4, 5), ("all", ("xxxxxxxx",) * 5, 6)):
            self.assertEqual(how_many(kind, board)[size], 0)
            self.assert_too_great(kind, board, size)

    def test_great_full_boards_and_a_small_one_behind_them(self):
        for kind in KINDS:
            for size in range(2, 9):
                self.assert_too_great(kind, FULL, size)
                self.assert_placings(all_placings(kind, ("x.x",), 1), [((0, 0),), ((0, 2),)], kind)
                self.assert_placings(all_placings(kind, ("..", ".."), size), [], kind)


class Steadiness(Asked):
    def test_told_lists_are_the_askers_own(self):
        for kind in KINDS:
            for board in (("xx", ".x"), ("x.x", "...", "x.x"), (".",)):
                for size in range(4):
                    told = all_placings(kind, board, size)
                    asked = list(told)
                    told.append(99)
                    told[0] = None
                    all_placings(kind, ("xxx", "xxx"), size)
                    again = all_placings(kind, board, size)
                    self.assertEqual(again, asked, board)
                    again.clear()
                    self.assertEqual(all_placings(kind, board, size), asked, board)

    def test_the_same_answer_behind_a_refusal(self):
        for kind in KINDS:
            first = [all_placings(kind, ("xxx", "x.x", "xxx"), size) for size in range(9)]
            self.assert_too_great(kind, FULL, 8)
            self.assert_too_great(kind, FULL, 2)
            self.assertEqual([all_placings(kind, ("xxx", "x.x", "xxx"), size) for size in range(9)], first)
            self.assert_too_great(kind, FULL, 8)


if __name__ == "__main__":
    unittest.main()
