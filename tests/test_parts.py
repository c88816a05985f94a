import inspect
import itertools
import unittest

from unstruck import parts
from unstruck.counting import row_of
from unstruck.parts import parts_of, product_of, row_by_parts

# Each with its parts, as they were seen by hand.
KNOWN = (
    (("x",), [[(0, 0)]]),
    (("x.x",), [[(0, 0), (0, 2)]]),
    (("x", ".", "x"), [[(0, 0), (2, 0)]]),
    (("x.", ".x"), [[(0, 0)], [(1, 1)]]),
    ((".x", "x."), [[(0, 1)], [(1, 0)]]),
    (("xx", ".x"), [[(0, 0), (0, 1), (1, 1)]]),
    # The first cell and the last one share no line: they hang together by way of others.
    (("xx..", ".xx.", "..xx"), [[(0, 0), (0, 1), (1, 1), (1, 2), (2, 2), (2, 3)]]),
    # Two cells apart till the last row brings them together.
    (("x..", "..x", "x.x"), [[(0, 0), (1, 2), (2, 0), (2, 2)]]),
    (("x...", ".x..", "..x.", "xxx."), [[(0, 0), (1, 1), (2, 2), (3, 0), (3, 1), (3, 2)]]),
    # The last row brings together the first part and the third one, and leaves the second.
    (("x..", ".x.", "..x", "x.x"), [[(0, 0), (2, 2), (3, 0), (3, 2)], [(1, 1)]]),
    # Parts between each other's rows and columns.
    (("x.x", ".x.", "x.x"), [[(0, 0), (0, 2), (2, 0), (2, 2)], [(1, 1)]]),
    (("x.x.", ".x.x", "x.x.", ".x.x"), [
        [(0, 0), (0, 2), (2, 0), (2, 2)],
        [(1, 1), (1, 3), (3, 1), (3, 3)],
    ]),
    (("..x", "xx.", "..x"), [[(0, 2), (2, 2)], [(1, 0), (1, 1)]]),
    (("...x", "x...", "...x", ".x.."), [[(0, 3), (2, 3)], [(1, 0)], [(3, 1)]]),
)

FULL = ("x" * 8,) * 8
SLANT = tuple("." * row + "x" + "." * (7 - row) for row in range(8))
STRIPES = ("x.x.x.x.", ".x.x.x.x") * 4
EMPTY = ((".",), ("........",), (".",) * 8, ("........",) * 8)


def all_boards(height, width):
    lines = ["".join(signs) for signs in itertools.product("x.", repeat=width)]
    return itertools.product(lines, repeat=height)


def parts_by_walking(board):
    left = [(row, column) for row, line in enumerate(board) for column, sign in enumerate(line) if sign == "x"]
    told = []
    while left:
        part = [left.pop(0)]
        for cell in part:
            near = [other for other in left if other[0] == cell[0] or other[1] == cell[1]]
            left = [other for other in left if other not in near]
            part.extend(near)
        told.append(sorted(part))
    return told


def product_by_definition(one, other):
    def at(numbers, place):
        return numbers[place] if place < len(numbers) else 0

    return [sum(at(one, i) * at(other, k - i) for i in range(k + 1)) for k in range(len(one) + len(other) - 1)]


class Interface(unittest.TestCase):
    def test_names_and_arguments(self):
        asked = {"parts_of": ["board"], "product_of": ["one", "other"], "row_by_parts": ["board"]}
        for name, arguments in asked.items():
            self.assertEqual(list(inspect.signature(getattr(parts, name)).parameters), arguments, name)


class PartsOf(unittest.TestCase):
    def test_known_parts(self):
        for board, asked in KNOWN:
            self.assertEqual(parts_of(board), asked, board)

    def test_without_cells(self):
        for board in EMPTY:
            self.assertEqual(parts_of(board), [], board)

    def test_eight_by_eight(self):
        self.assertEqual(parts_of(FULL), [[(row, column) for row in range(8) for column in range(8)]])
        self.assertEqual(parts_of(SLANT), [[(k, k)] for k in range(8)])
        self.assertEqual(parts_of(SLANT[::-1]), [[(k, 7 - k)] for k in range(8)])
        self.assertEqual([len(part) for part in parts_of(STRIPES)], [16, 16])

    def test_a_long_chain_is_one_part(self):
        board = tuple("." * row + "xx" + "." * (6 - row) for row in range(7)) + ("x.......",)
        cells = [(row, column) for row in range(7) for column in (row, row + 1)] + [(7, 0)]
        self.assertEqual(parts_of(board), [cells])

    def test_small_boards_by_walking(self):
        for height, width in itertools.product(range(1, 5), repeat=2):
            if height * width <= 12:
                for board in all_boards(height, width):
                    self.assertEqual(parts_of(board), parts_by_walking(board), board)

    def test_each_in_order_and_in_the_order_of_first_cells(self):
        for board in [board for board, asked in KNOWN] + [FULL, SLANT, STRIPES]:
            told = parts_of(board)
            cells = [cell for part in told for cell in part]
            self.assertEqual(len(cells), "".join(board).count("x"))
            self.assertEqual(len(set(cells)), len(cells))
            self.assertEqual(told, [sorted(part) for part in told])
            self.assertEqual([part[0] for part in told], sorted(part[0] for part in told))

    def test_kinds(self):
        for board in [board for board, asked in KNOWN] + [FULL, SLANT]:
            told = parts_of(board)
            self.assertIs(type(told), list)
            for part in told:
                self.assertIs(type(part), list)
                for cell in part:
                    self.assertIs(type(cell), tuple)
                    self.assertEqual([type(number) for number in cell], [int, int])

    def test_somewhat_greater_boards_are_not_refused(self):
        board = tuple("." * row + "x" + "." * (9 - row) for row in range(10))
        self.assertEqual(parts_of(board), [[(k, k)] for k in range(10)])


class ProductOf(unittest.TestCase):
    LISTS = (
        [0],
        [1],
        [7],
        [0, 0],
        [1, 1],
        [0, 1],
        [1, 0],
        [0, 0, 3],
        [3, 0, 0],
        [0, 2, 0, 5, 0],
        [1, 64, 1568, 18816, 117600, 376320, 564480, 322560, 40320],
        [10 ** 40, 0, 10 ** 60 + 1],
        list(range(100)),
        [0] * 99 + [1],
        [1] + [0] * 99,
        [1] * 100,
    )

    def test_known_products(self):
        for one, other, asked in (
            ([1], [1], [1]),
            ([3], [5], [15]),
            ([0], [5], [0]),
            ([2], [1, 2, 3], [2, 4, 6]),
            ([1, 1], [1, 1], [1, 2, 1]),
            ([1, 2], [1, 3, 1], [1, 5, 7, 2]),
            ([0, 1], [1, 2], [0, 1, 2]),
            ([0, 0, 1], [0, 4], [0, 0, 0, 4]),
            ([1, 0], [1, 0, 0], [1, 0, 0, 0]),
            ([0, 0], [0, 0, 0], [0, 0, 0, 0]),
            ([10 ** 30, 1], [10 ** 30, 1], [10 ** 60, 2 * 10 ** 30, 1]),
        ):
            self.assertEqual(product_of(one, other), asked, (one, other))
            self.assertEqual(product_of(other, one), asked, (other, one))

    def test_by_definition(self):
        for one, other in itertools.product(self.LISTS, repeat=2):
            told = product_of(one, other)
            self.assertEqual(told, product_by_definition(one, other), (one, other))
            self.assertEqual(len(told), len(one) + len(other) - 1)
            self.assertIs(type(told), list)
            self.assertEqual({type(number) for number in told}, {int})

    def test_a_hundred_ones(self):
        self.assertEqual(product_of([1] * 100, [1] * 100), list(range(1, 101)) + list(range(99, 0, -1)))

    def test_somewhat_more_numbers_are_not_refused(self):
        self.assertEqual(product_of([1] * 120, [1, 1]), [1] + [2] * 119 + [1])

    def test_the_lists_handed_in_stay(self):
        for first, second in itertools.product(self.LISTS, repeat=2):
            one = list(first)
            other = list(second)
            product_of(one, other)
            self.assertEqual((one, other), (first, second))

    def test_one_list_by_itself(self):
        numbers = [1, 2, 3]
        self.assertEqual(product_of(numbers, numbers), [1, 4, 10, 12, 9])
        self.assertEqual(numbers, [1, 2, 3])


class RowByParts(unittest.TestCase):
    def test_known_rows(self):
        for board, row in (
            (("x",), [1, 1]),
            (("x.", ".x"), [1, 2, 1]),
            (("xx", ".x"), [1, 3, 1]),
            (("x.x", ".x.", "x.x"), [1, 5, 6, 2]),
            (SLANT, [1, 8, 28, 56, 70, 56, 28, 8, 1]),
            (FULL, [1, 64, 1568, 18816, 117600, 376320, 564480, 322560, 40320]),
        ):
            self.assertEqual(row_by_parts(board), row, board)

    def test_without_cells(self):
        for board in EMPTY:
            self.assertEqual(row_by_parts(board), [1], board)

    def test_against_the_row(self):
        for height, width in itertools.product(range(1, 5), repeat=2):
            if height * width <= 9:
                for board in all_boards(height, width):
                    self.assertEqual(row_by_parts(board), row_of(board), board)

    def test_kinds(self):
        for board in EMPTY + (FULL, SLANT, STRIPES):
            row = row_by_parts(board)
            self.assertIs(type(row), list)
            self.assertEqual({type(number) for number in row}, {int})


class Steadiness(unittest.TestCase):
    def test_told_parts_are_the_askers_own(self):
        for board, asked in KNOWN:
            told = parts_of(board)
            told[0].append((7, 7))
            told[-1][0] = None
            told.append([])
            parts_of(("x.x", "xx."))
            self.assertEqual(parts_of(board), asked, board)
            again = parts_of(board)
            for part in again:
                part.clear()
            again.clear()
            self.assertEqual(parts_of(board), asked, board)
            self.assertEqual(row_by_parts(board), row_of(board), board)

    def test_no_parts_are_the_askers_own_too(self):
        for board in EMPTY:
            parts_of(board).append([(0, 0)])
            self.assertEqual(parts_of(board), [], board)

    def test_no_list_stands_twice_among_the_parts(self):
        told = parts_of(SLANT)
        self.assertEqual(len({id(part) for part in told}), 8)

    def test_told_rows_are_the_askers_own(self):
        for board in EMPTY + (FULL, SLANT, STRIPES, ("x",), ("x.", ".x")):
            asked = row_of(board)
            told = row_by_parts(board)
            told[0] = None
            told.append(7)
            row_by_parts(("x.x", "xx."))
            row_by_parts(("..",))
            self.assertEqual(row_by_parts(board), asked, board)
            again = row_by_parts(board)
            again.clear()
            self.assertEqual(row_by_parts(board), asked, board)

    def test_a_product_is_neither_of_the_lists(self):
        for numbers in ([1], [0], [1, 3, 1], [0, 2], [5, 0]):
            for one, other in (([1], list(numbers)), (list(numbers), [1])):
                before = (list(one), list(other))
                told = product_of(one, other)
                self.assertEqual(told, numbers)
                self.assertIsNot(told, one)
                self.assertIsNot(told, other)
                told[0] = 99
                told.append(7)
                product_of([2, 2], [3])
                self.assertEqual((one, other), before)
                self.assertEqual(product_of(one, other), numbers)

    def test_a_told_product_stays_when_a_list_handed_in_is_changed(self):
        numbers = [1, 3, 1]
        told = product_of([1], numbers)
        numbers[0] = 50
        numbers.clear()
        self.assertEqual(told, [1, 3, 1])


if __name__ == "__main__":
    unittest.main()
