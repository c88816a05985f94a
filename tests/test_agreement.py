"""What is promised over the whole program: all ways agree, and each question has one answer."""

import copy
import itertools
import unittest

from unstruck.boards import cells_of, exchanged, is_placing, laid_over, mirrored, rest_of
from unstruck.cellwise import row_by_cells
from unstruck.counting import rests_of, row_of
from unstruck.errors import BoardError, NoBoard, NoPlacing, NoStair, TooGreat
from unstruck.hits import hits_of
from unstruck.most import bare_of, most_of
from unstruck.order import next_placing, number_of, placing_at
from unstruck.parts import parts_of, product_of, row_by_parts
from unstruck.reports import report
from unstruck.resting import full_number, row_of_rest
from unstruck.stairs import factors_of, factors_of_row, row_by_factors, steps_of
from unstruck.strikes import all_placings, struck
from unstruck.texts import read_board, written

BOARDS = (
    (".",),
    ("x",),
    ("x.xx.x.x",),
    ("x", ".", "x", "x"),
    ("........",) * 8,
    ("xxxxxxxx",) * 8,
    ("x.x.x.x.", ".x.x.x.x") * 4,
    ("xxx.....", "xxx.....", "...x....", "....xx..", "....x...", "......xx", "......x.", "........"),
    ("xxx.x.xx", ".xx.xxx.", "x.xx.x.x", "xx.x..xx", ".x.xxx.x", "x.x.xx.x", "xx..x.xx", "..xxx.x."),
    ("x......x", ".x....x.", "..x..x..", "...xx...", "...xx...", "..x..x..", ".x....x.", "x......x"),
    ("xx..", "x.x.", ".x.x"),
    ("xx", "x.", ".x", "..", "xx"),
    ("x..", "xx.", "xxx"),
)


def small_boards():
    for height, width in itertools.product(range(1, 5), repeat=2):
        if height * width <= 8:
            lines = ["".join(signs) for signs in itertools.product("x.", repeat=width)]
            yield from itertools.product(lines, repeat=height)


def orders(size):
    if size <= 3:
        return [list(order) for order in itertools.permutations(range(size))]
    there = list(range(size))
    return [there, there[::-1], there[1:] + there[:1], there[::2] + there[1::2], [1, 0] + there[2:]]


def is_stair(board):
    try:
        steps_of(board)
    except NoStair:
        return False
    return True


def beside(one, other):
    """The one board above to the left, the other below to the right, sharing neither row nor column."""
    above = tuple(line + "." * len(other[0]) for line in one)
    below = tuple("." * len(one[0]) + line for line in other)
    return above + below


class Ways(unittest.TestCase):
    def test_by_cells_and_by_parts(self):
        for board in itertools.chain(BOARDS, small_boards()):
            row = row_of(board)
            self.assertEqual(row_by_parts(board), row, board)
            if "".join(board).count("x") <= 12:
                self.assertEqual(row_by_cells(board), row, board)

    def test_rests_are_those_of_the_row(self):
        for board in BOARDS:
            self.assertEqual(rests_of(board, 11), [number % 11 for number in row_by_parts(board)], board)

    def test_by_the_rest_in_the_full_board(self):
        for board in itertools.chain(BOARDS, small_boards()):
            numbers = row_of(rest_of(board))
            self.assertEqual(row_of_rest(len(board), len(board[0]), numbers), row_of(board), board)


    def test_by_the_factors_of_a_stair(self):
        seen = 0
        for board in itertools.chain(BOARDS, small_boards()):
            if is_stair(board):
                seen += 1
                self.assertEqual(row_by_factors(factors_of(board)), row_of(board), board)
                self.assertEqual(factors_of_row(row_of(board)), factors_of(board), board)
        self.assertGreater(seen, 100)


class Order(unittest.TestCase):
    def assert_walk(self, board, size, many):
        walk = []
        placing = placing_at(board, size, 0)
        while placing is not None:
            self.assertTrue(is_placing(board, placing), board)
            self.assertEqual(len(placing), size, board)
            walk.append(placing)
            placing = next_placing(board, placing)
        self.assertEqual(len(walk), many, board)
        self.assertEqual(walk, sorted(set(walk)), board)
        return walk

    def test_the_walk_is_as_long_as_the_row_says_and_numbered(self):
        for board in itertools.chain(BOARDS, small_boards()):
            row = row_of(board)
            for size, many in enumerate(row):
                if many <= 2000:
                    walk = self.assert_walk(board, size, many)
                    for number, placing in enumerate(walk[:300]):
                        self.assertEqual(placing_at(board, size, number), placing, board)
                        self.assertEqual(number_of(board, placing), number, board)
            with self.assertRaises(NoPlacing):
                placing_at(board, len(row), 0)

    def test_numbers_there_and_back(self):
        for board in BOARDS:
            for size, many in enumerate(row_of(board)):
                for number in range(0, many, many // 40 + 1):
                    placing = placing_at(board, size, number)
                    self.assertEqual(len(placing), size, board)
                    self.assertEqual(number_of(board, placing), number, board)
                with self.assertRaises(NoPlacing):
                    placing_at(board, size, many)

    def test_straight_ones_all_told_are_the_walk(self):
        for board in itertools.chain(BOARDS, small_boards()):
            row = row_of(board)
            for size, many in enumerate(row):
                if sum(row[:size + 1]) <= 1000:
                    self.assertEqual(all_placings("straight", board, size), self.assert_walk(board, size, many), board)

    def test_the_told_placing_of_the_most_has_a_number(self):
        for board in itertools.chain(BOARDS, small_boards()):
            placing = most_of(board)[0]
            self.assertEqual(placing_at(board, len(placing), number_of(board, placing)), placing, board)


class Stairs(unittest.TestCase):
    def stairs(self):
        yield from (board for board in itertools.chain(BOARDS, small_boards()) if is_stair(board))
        for steps in itertools.combinations_with_replacement(range(6), 5):
            yield tuple("x" * step + "." * (5 - step) for step in steps)
        for steps in itertools.combinations_with_replacement((0, 1, 4, 7, 8), 8):
            yield tuple("x" * step + "." * (8 - step) for step in steps)

    def test_the_same_row_just_where_the_same_factors(self):
        factors_told, rows_told, steps_seen = {}, {}, set()
        for board in self.stairs():
            row, factors = tuple(row_of(board)), tuple(factors_of(board))
            self.assertEqual(factors_told.setdefault(row, factors), factors, board)
            self.assertEqual(rows_told.setdefault(factors, row), row, board)
            steps_seen.add(tuple(steps_of(board)))
        # Unlike steps may have the same row, so that there is something to be told apart.
        self.assertLess(len(factors_told), len(steps_seen))

    def test_boards_made_of_a_stair_have_its_factors(self):
        for board in self.stairs():
            factors = factors_of(board)
            for made in (laid_over(board), mirrored(board), board[::-1]):
                self.assertEqual(factors_of(made), factors, made)


class Reports(unittest.TestCase):
    def test_the_numbers_are_those_of_every_way(self):
        for board in itertools.chain(BOARDS, small_boards()):
            lines = [line.split(" ") for line in report(written(board)).split("\n")]
            self.assertEqual(lines[1][1:], [str(number) for number in row_by_parts(board)], board)
            self.assertEqual(sum(int(word) for word in lines[2][1:]), sum(hits_of(board)), board)
            self.assertEqual(int(lines[3][1]), len(row_of(board)) - 1, board)
            self.assertEqual(lines[4][0], "factors" if is_stair(board) else "none", board)


class Most(unittest.TestCase):
    def test_the_rows_last_number_stands_at_the_most(self):
        for board in itertools.chain(BOARDS, small_boards()):
            asked = len(row_of(board)) - 1
            placing, rows, columns = most_of(board)
            self.assertTrue(is_placing(board, placing), board)
            self.assertEqual(len(placing), asked, board)
            self.assertEqual(len(rows) + len(columns), asked, board)
            for row, line in enumerate(board):
                for column, sign in enumerate(line):
                    self.assertTrue(sign == "." or row in rows or column in columns, board)

    def test_a_bare_part_shows_the_same_most(self):
        for board in itertools.chain(BOARDS, small_boards()):
            rows, columns = bare_of(board)
            shown = len(board) + len(board[0]) - len(rows) - len(columns)
            self.assertEqual(shown, len(row_of(board)) - 1, board)

    def test_of_boards_made_of_it(self):
        for board in BOARDS:
            asked = len(most_of(board)[0])
            for made in (laid_over(board), mirrored(board), laid_over(mirrored(board))):
                self.assertEqual(len(most_of(made)[0]), asked, made)


class Hits(unittest.TestCase):
    def test_all_together_are_the_full_placings(self):
        for board in itertools.chain(BOARDS, small_boards()):
            height, width = len(board), len(board[0])
            self.assertEqual(sum(hits_of(board)), full_number(height, width, min(height, width)), board)

    def test_all_pieces_on_cells_and_all_on_holes(self):
        for board in itertools.chain(BOARDS, small_boards()):
            size = min(len(board), len(board[0]))
            told = hits_of(board)
            for hit, row in ((told[-1], row_of(board)), (told[0], row_of(rest_of(board)))):
                self.assertEqual(hit, row[size] if size < len(row) else 0, board)


def answer(ask, *things):
    """What is told, as it can be compared, or the class of the refusal with its rows."""
    try:
        return ask(*things)
    except BoardError as refusal:
        return (type(refusal), getattr(refusal, "rows", None))


def questions(board):
    row = row_of(board)
    rest = row_of(rest_of(board))
    rows = list(range(len(board)))[::-1]
    columns = list(range(len(board[0])))[::-1]
    placing = most_of(board)[0]
    yield from ((ask, board) for ask in (
        cells_of, laid_over, mirrored, rest_of, written, row_of, row_by_cells, parts_of, row_by_parts, hits_of,
        most_of, bare_of, steps_of, factors_of,
    ))
    yield from ((exchanged, board, rows, columns), (rests_of, board, 7), (product_of, row, rest))
    yield from ((row_of_rest, len(board), len(board[0]), rest), (factors_of_row, row))
    yield from ((placing_at, board, size, number) for size in range(-1, 10) for number in (-1, 0, 3, 10 ** 9))
    yield from ((ask, board, thing) for ask in (number_of, next_placing) for thing in (placing, list(placing), None))
    yield from ((all_placings, kind, board, size) for kind in ("straight", "aslant", "all") for size in (0, 1, 2, 8))
    yield from ((report, written(board)), (report, board), (read_board, written(board)), (read_board, list(board)))
    if is_stair(board):
        yield (row_by_factors, factors_of(board))


def lists_in(told):
    if isinstance(told, list):
        yield told
    if isinstance(told, (list, tuple)):
        for part in told:
            yield from lists_in(part)


def has_a_truth(told):
    if isinstance(told, (list, tuple)):
        return any(has_a_truth(part) for part in told)
    return isinstance(told, bool)


class Steadiness(unittest.TestCase):
    def test_each_question_has_the_same_answer_each_time(self):
        asked = [question for board in BOARDS for question in questions(board)]
        first = [copy.deepcopy(answer(*question)) for question in asked]
        for question in asked:
            for told in list(lists_in(answer(*question))):
                told.append(99)
                told[0] = None
        self.assertEqual([answer(*question) for question in asked[::-1]], first[::-1])

    def test_what_is_handed_in_stays(self):
        for board in BOARDS:
            for question in questions(board):
                handed = copy.deepcopy(question[1:])
                answer(*question)
                self.assertEqual(question[1:], handed, question)

    def test_each_list_is_told_once_and_none_was_handed_in(self):
        for board in BOARDS:
            for question in questions(board):
                lists = list(lists_in(question[1:])) + list(lists_in(answer(*question)))
                again = list(lists_in(answer(*question)))
                self.assertEqual(len({id(part) for part in lists + again}), len(lists + again), question)

    def test_no_truth_is_told_for_a_number(self):
        for board in BOARDS:
            for question in questions(board):
                self.assertFalse(has_a_truth(answer(*question)), question)

    def test_all_refusals_are_among_the_answers(self):
        told = [answer(*question) for board in BOARDS for question in questions(board)]
        refused = {part[0] for part in told if isinstance(part, tuple) and part and isinstance(part[0], type)}
        self.assertEqual(refused, {NoBoard, NoPlacing, NoStair, TooGreat})


class Strikes(unittest.TestCase):
    def test_just_the_placings_stand_straight(self):
        for board in small_boards():
            for one, other in itertools.combinations(cells_of(board), 2):
                self.assertEqual(is_placing(board, (one, other)), not struck("straight", one, other), board)


class MadeBoards(unittest.TestCase):
    def assert_same_row(self, board, made):
        row = row_of(board)
        self.assertEqual(row_of(made), row, (board, made))
        self.assertEqual(row_by_parts(made), row, (board, made))
        if "".join(board).count("x") <= 12:
            self.assertEqual(row_by_cells(made), row, (board, made))

    def test_laid_over_and_mirrored(self):
        for board in itertools.chain(BOARDS, small_boards()):
            self.assert_same_row(board, laid_over(board))
            self.assert_same_row(board, mirrored(board))
            self.assert_same_row(board, laid_over(mirrored(board)))

    def test_exchanged(self):
        for board in BOARDS:
            for rows, columns in itertools.product(orders(len(board)), orders(len(board[0]))):
                self.assert_same_row(board, exchanged(board, rows, columns))


class Parts(unittest.TestCase):
    def test_rows_are_multiplied(self):
        small = [board for board in BOARDS if len(board) <= 4 and len(board[0]) <= 4]
        for one, other in itertools.product(small, repeat=2):
            both = beside(one, other)
            product = product_of(row_of(one), row_of(other))
            self.assertEqual(row_of(both), product, both)
            self.assertEqual(row_by_parts(both), product, both)
            self.assertEqual(len(parts_of(both)), len(parts_of(one)) + len(parts_of(other)), both)

    def test_also_where_their_lines_stand_mixed(self):
        both = exchanged(beside(("xx", ".x"), ("xxx", "x.x")), [2, 0, 3, 1], [4, 0, 2, 1, 3])
        self.assertEqual(row_of(both), product_of([1, 3, 1], [1, 5, 4]))
        self.assertEqual(row_by_parts(both), [1, 8, 20, 17, 4])


if __name__ == "__main__":
    unittest.main()
