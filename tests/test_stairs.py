import inspect
import itertools
import math
import unittest

from unstruck import stairs
from unstruck.boards import exchanged, laid_over, mirrored
from unstruck.counting import row_of
from unstruck.errors import NoStair
from unstruck.stairs import factors_of, factors_of_row, row_by_factors, steps_of

# Each with its steps and its factors, as they were reckoned by hand.
STAIRS = (
    # Without cells.
    ((".",), [0], [-7, -6, -5, -4, -3, -2, -1, 0]),
    (("........",) * 8, [0] * 8, [-7, -6, -5, -4, -3, -2, -1, 0]),
    (("...", "..."), [0, 0], [-7, -6, -5, -4, -3, -2, -1, 0]),
    # Of one cell, one row, one column.
    (("x",), [1], [-6, -6, -5, -4, -3, -2, -1, 0]),
    (("x.xx.x.x",), [5], [-6, -5, -4, -3, -2, -2, -1, 0]),
    (("xxxxxxxx",), [8], [-6, -5, -4, -3, -2, -1, 0, 1]),
    (("x", ".", "x", "x"), [0, 1, 1, 1], [-6, -5, -4, -4, -3, -2, -1, 0]),
    (("x",) * 8, [1] * 8, [-6, -5, -4, -3, -2, -1, 0, 1]),
    # Full ones.
    (("xx", "xx"), [2, 2], [-5, -5, -4, -4, -3, -2, -1, 0]),
    (("xxxxxxxx",) * 8, [8] * 8, [1, 2, 3, 4, 5, 6, 7, 8]),
    (("xxxxxxxx",) * 3, [8] * 3, [-4, -3, -2, -1, 0, 1, 2, 3]),
    (("xxx",) * 8, [3] * 8, [-4, -3, -2, -1, 0, 1, 2, 3]),
    # Steps, in order and out of it.
    (("xx", ".x"), [1, 2], [-5, -5, -5, -4, -3, -2, -1, 0]),
    (("x..", "xx.", "xxx"), [1, 2, 3], [-4, -4, -4, -4, -3, -2, -1, 0]),
    ((".x.", "xxx", "xx."), [1, 2, 3], [-4, -4, -4, -4, -3, -2, -1, 0]),
    (("x.x", "...", "x.x", "xxx", "..x"), [0, 1, 2, 2, 3], [-4, -4, -3, -3, -3, -2, -1, 0]),
    (tuple("x" * size + "." * (8 - size) for size in range(1, 9)), list(range(1, 9)), [1] * 8),
    (tuple("x" * size + "." * (8 - size) for size in range(7, -1, -1)), list(range(8)), [0] * 8),
    (("xxxxxxxx",) * 4 + ("........",) * 4, [0] * 4 + [8] * 4, [-3, -2, -1, 0, 1, 2, 3, 4]),
)

# Each with the first two rows, in order, of which neither has all of the other's columns.
NO_STAIRS = (
    (("x.", ".x"), (0, 1)),
    ((".x", "x."), (0, 1)),
    (("x.x", "xx."), (0, 1)),
    (("xxx", "x..", ".x."), (1, 2)),
    (("x..", "xxx", ".x."), (0, 2)),
    (("xx.", "x..", "x..", ".xx"), (0, 3)),
    (("x..", ".x.", "..x"), (0, 1)),
    (("x..", "x..", ".x.", "..x"), (0, 2)),
    (("...", "x..", "...", ".x.", "..x"), (1, 3)),
    (("xxx", "xxx", "xx.", ".xx", "x.x"), (2, 3)),
    # Several pairs: the first has the least row ahead, and then the least row behind it.
    (("xxxx", "xx..", "..xx", "x..."), (1, 2)),
    (("x...", "xxx.", "xxxx", "xx..", ".xx.", "...x"), (0, 4)),
    (("xxx.", "x...", "..x.", ".x..", "...x"), (0, 4)),
    (("xxxxxxxx",) * 6 + ("x.......", ".......x"), (6, 7)),
    ((".......x",) + ("xxxxxxxx",) * 6 + ("x.......",), (0, 7)),
    (("x.x.x.x.", ".x.x.x.x") * 4, (0, 1)),
    (("xxxxxxx.",) * 7 + (".xxxxxxx",), (0, 7)),
)

# Rows of boards that are no stairs, and their factors.
OTHER_ROWS = (
    # What is left is x * x - 11 * x + 31, which has no factor.
    (("x.", ".x"), [-5, -4, -3, -2, -1, 0]),
    (("x..", ".x.", "..x"), [-4, -3, -2, -1, 0]),
    (("x..xx...", ".xxxxxx.", "..xx...x", "x....xx.", "...xx...", "x..x....", "...x.x.x", "..x.xx.x"), []),
    (("xx..xxx.", "x.x..xx.", "..xx.x.x", "x.x.x.xx", ".x.x....", "x..x.xxx", "...x...x"), [0]),
    ((".x..xx", "xxxxx.", ".xx...", ".x.x.x", "xxxxx.", "x.x.x.", "..x..x", "x..x.."), [-1, 0]),
    (("xxxx.xx.", "..x.xxx.", "x.x....x", ".x...x.x", "xxxx.xx."), [-2, -1, 0]),
    (("xxxxx", "x...x", "xxx..", "xx.x.", "x..xx"), [-2, -2, -1, 0]),
    (("xxxx.xxx", "xxxxxx.x", "xxxxxxxx", "xxxxxxxx", "xx.xxxxx", "xxxxxx.x"), [-1, 0, 1, 2, 3]),
    (("xxxxx..", "xxx.xxx", "xxxxxxx", "xxxxxxx", ".xxxxx.", "xxxxxxx", "xxxxxxx"), [0, 0, 1, 2, 3, 3]),
    # All eight, though they are no stairs: there are stairs with the same row.
    (("x..xxx", ".x...."), [-5, -4, -4, -4, -3, -2, -1, 0]),
    (("xx.", ".xx", ".xx", ".xx", ".xx"), [-4, -3, -3, -3, -2, -2, -1, 0]),
    (("....xx", "xxxx.x", "xxxxxx"), [-4, -3, -2, -2, -2, -1, -1, 0]),
)


def all_boards(height, width):
    lines = ["".join(signs) for signs in itertools.product("x.", repeat=width)]
    return itertools.product(lines, repeat=height)


def small_boards():
    for height, width in itertools.product(range(1, 5), repeat=2):
        if height * width <= 9:
            yield from all_boards(height, width)


def great_boards():
    """Boards of many shapes by a plain rule, so that they are the same each time."""
    number = 7
    for height, width in itertools.product(range(3, 9), repeat=2):
        for share in (2, 4, 8):
            lines = []
            for row in range(height):
                signs = ""
                for column in range(width):
                    number = (number * 1103515245 + 12345) % 2 ** 31
                    signs += "." if (number >> 16) % share == 0 else "x"
                lines.append(signs)
            yield tuple(lines)


def made_of(board):
    rows = list(range(len(board)))
    columns = list(range(len(board[0])))
    yield mirrored(board)
    yield board[::-1]
    yield exchanged(board, rows[1:] + rows[:1], columns[::2] + columns[1::2])
    yield exchanged(board, rows[::2] + rows[1::2], columns[2:] + columns[:2])


def crossing(board):
    sets = [{column for column, sign in enumerate(line) if sign == "x"} for line in board]
    pairs = itertools.combinations(range(len(board)), 2)
    return [(one, other) for one, other in pairs if sets[one] - sets[other] and sets[other] - sets[one]]


def all_steps():
    """The steps of every stair of eight rows and eight columns."""
    return itertools.combinations_with_replacement(range(9), 8)


def row_of_steps(steps):
    """A piece in a row finds the columns of the pieces in lesser rows taken, all of them its own."""
    row = [1] + [0] * len(steps)
    for step in steps:
        row = [row[0]] + [row[k] + row[k - 1] * max(step - k + 1, 0) for k in range(1, len(row))]
    while row[-1] == 0:
        row.pop()
    return row


def factors_by_steps(steps):
    padded = [0] * (8 - len(steps)) + list(steps)
    return sorted(padded[place] - place for place in range(8))


def falling(x, factors):
    return math.prod(x - less for less in range(factors))


def sum_over(row, x):
    return sum((row[8 - k] if 8 - k < len(row) else 0) * falling(x, k) for k in range(9))


def powers_in(row):
    """The numbers of the powers of x, from the lowest up: of each factor (x - less), x or -less is taken."""
    powers = [0] * 9
    for k in range(9):
        number = row[8 - k] if 8 - k < len(row) else 0
        for chosen in itertools.product((0, 1), repeat=k):
            term = math.prod(1 if bit else -less for less, bit in enumerate(chosen))
            powers[sum(chosen)] += number * term
    return powers


def derived(powers):
    return [place * number for place, number in enumerate(powers)][1:]


def value_at(powers, x):
    return sum(number * x ** place for place, number in enumerate(powers))


def factors_by_slopes(row):
    """(x + f) can be taken out as often as the sum and its slopes are nought at -f."""
    factors = []
    for factor in range(-40, 81):
        powers = powers_in(row)
        while value_at(powers, -factor) == 0:
            factors.append(factor)
            powers = derived(powers)
    return factors


class Asked(unittest.TestCase):
    def assert_numbers(self, told, asked, where):
        self.assertEqual(told, asked, where)
        self.assertIs(type(told), list, where)
        for number in told:
            self.assertIs(type(number), int, where)

    def assert_no_stair(self, ask, board, rows):
        with self.assertRaises(NoStair, msg=board) as taken:
            ask(board)
        self.assertIs(type(taken.exception), NoStair)
        told = taken.exception.rows
        self.assertEqual(told, rows, board)
        self.assertIs(type(told), tuple, board)
        self.assertEqual([type(number) for number in told], [int, int], board)


class Interface(unittest.TestCase):
    def test_names_and_arguments(self):
        asked = {
            "steps_of": ["board"],
            "factors_of": ["board"],
            "row_by_factors": ["some"],
            "factors_of_row": ["numbers"],
        }
        for name, arguments in asked.items():
            self.assertEqual(list(inspect.signature(getattr(stairs, name)).parameters), arguments, name)


class StepsOf(Asked):
    def test_known_stairs(self):
        for board, steps, factors in STAIRS:
            self.assert_numbers(steps_of(board), steps, board)

    def test_rows_and_columns_in_any_order(self):
        for board, steps, factors in STAIRS:
            for made in made_of(board):
                self.assert_numbers(steps_of(made), steps, made)

    def test_every_order_of_a_stair(self):
        board = ("....", "x...", "xx..", "xx..", "xxxx")
        for rows in itertools.permutations(range(5)):
            for columns in itertools.permutations(range(4)):
                made = exchanged(board, list(rows), list(columns))
                self.assert_numbers(steps_of(made), [0, 1, 2, 2, 4], made)

    def test_laid_over_a_stair_is_one(self):
        self.assert_numbers(steps_of(laid_over(("x...", "xx..", "xxxx"))), [1, 1, 2, 3], None)
        for board, steps, factors in STAIRS:
            asked = sorted(column.count("x") for column in laid_over(board))
            self.assert_numbers(steps_of(laid_over(board)), asked, board)

    def test_boards_without_cells_and_full_ones(self):
        for height, width in itertools.product(range(1, 9), repeat=2):
            self.assert_numbers(steps_of(("." * width,) * height), [0] * height, (height, width))
            self.assert_numbers(steps_of(("x" * width,) * height), [width] * height, (height, width))

    def test_every_single_row_and_column(self):
        for size in range(1, 9):
            for signs in itertools.product("x.", repeat=size):
                self.assert_numbers(steps_of(("".join(signs),)), [signs.count("x")], signs)
                asked = sorted(1 if sign == "x" else 0 for sign in signs)
                self.assert_numbers(steps_of(signs), asked, signs)

    def test_boards_that_are_none(self):
        for board, rows in NO_STAIRS:
            self.assertEqual(crossing(board)[0], rows, board)
            self.assert_no_stair(steps_of, board, rows)

    def test_small_and_great_boards_of_either_kind(self):
        for board in itertools.chain(small_boards(), great_boards()):
            pairs = crossing(board)
            if pairs:
                self.assert_no_stair(steps_of, board, pairs[0])
            else:
                self.assert_numbers(steps_of(board), sorted(line.count("x") for line in board), board)

    def test_somewhat_greater_boards_are_not_refused(self):
        self.assert_numbers(steps_of(("x" * 10,) * 9), [10] * 9, None)
        self.assert_no_stair(steps_of, ("x" * 10,) * 8 + ("x" * 9 + ".", "." + "x" * 9), (8, 9))


class FactorsOf(Asked):
    def test_known_stairs(self):
        for board, steps, factors in STAIRS:
            self.assert_numbers(factors_of(board), factors, board)
            for made in made_of(board):
                self.assert_numbers(factors_of(made), factors, made)

    def test_against_the_steps(self):
        for steps in all_steps():
            board = tuple("x" * step + "." * (8 - step) for step in steps)
            self.assert_numbers(factors_of(board), factors_by_steps(steps), steps)

    def test_fewer_rows_and_columns(self):
        for height, width in itertools.product(range(1, 6), repeat=2):
            for steps in itertools.combinations_with_replacement(range(width + 1), height):
                board = tuple("x" * step + "." * (width - step) for step in steps)
                self.assert_numbers(factors_of(board), factors_by_steps(steps), steps)
                self.assert_numbers(factors_of(laid_over(board)), factors_of(board), steps)

    def test_the_product_is_the_sum_over_the_row(self):
        for board, steps, factors in STAIRS:
            row = row_of(board)
            told = factors_of(board)
            for x in list(range(-20, 21)) + [100, -999, 10 ** 12]:
                self.assertEqual(math.prod(x + factor for factor in told), sum_over(row, x), (board, x))

    def test_boards_that_are_none(self):
        for board, rows in NO_STAIRS:
            self.assert_no_stair(factors_of, board, rows)
        for board in small_boards():
            pairs = crossing(board)
            if pairs:
                self.assert_no_stair(factors_of, board, pairs[0])
            else:
                self.assert_numbers(factors_of(board), factors_by_steps(steps_of(board)), board)


class RowByFactors(Asked):
    def test_known_stairs(self):
        for board, steps, factors in STAIRS:
            self.assert_numbers(row_by_factors(list(factors)), row_of(board), board)

    def test_known_rows(self):
        self.assert_numbers(row_by_factors([-7, -6, -5, -4, -3, -2, -1, 0]), [1], None)
        self.assert_numbers(row_by_factors([-5, -5, -5, -4, -3, -2, -1, 0]), [1, 3, 1], None)
        full = [math.comb(8, k) ** 2 * math.factorial(k) for k in range(9)]
        self.assert_numbers(row_by_factors([1, 2, 3, 4, 5, 6, 7, 8]), full, None)
        # The numbers of ways to part nine things, and eight things, into sets.
        self.assert_numbers(row_by_factors([1] * 8), [1, 36, 462, 2646, 6951, 7770, 3025, 255, 1], None)
        self.assert_numbers(row_by_factors([0] * 8), [1, 28, 266, 1050, 1701, 966, 127, 1], None)

    def test_all_stairs_of_eight_rows_and_columns(self):
        for steps in all_steps():
            self.assert_numbers(row_by_factors(factors_by_steps(steps)), row_of_steps(steps), steps)

    def test_small_boards_and_their_factors(self):
        for board in small_boards():
            if not crossing(board):
                self.assert_numbers(row_by_factors(factors_of(board)), row_of(board), board)

    def test_somewhat_greater_boards_are_not_refused(self):
        for board in (("x" * 10,) * 9, tuple("x" * size + "." * (10 - size) for size in range(11)), ("x" * 12,)):
            self.assert_numbers(row_by_factors(factors_of(board)), row_of(board), board)


class FactorsOfRow(Asked):
    def test_known_stairs(self):
        for board, steps, factors in STAIRS:
            self.assert_numbers(factors_of_row(row_of(board)), factors, board)

    def test_known_other_boards(self):
        for board, factors in OTHER_ROWS:
            self.assertTrue(crossing(board), board)
            self.assertEqual(factors_by_slopes(row_of(board)), factors, board)
            self.assert_numbers(factors_of_row(row_of(board)), factors, board)

    def test_known_rows(self):
        self.assert_numbers(factors_of_row([1]), [-7, -6, -5, -4, -3, -2, -1, 0], None)
        self.assert_numbers(factors_of_row([1, 3, 1]), [-5, -5, -5, -4, -3, -2, -1, 0], None)
        self.assert_numbers(factors_of_row([1, 2, 1]), [-5, -4, -3, -2, -1, 0], None)

    def test_all_stairs_of_eight_rows_and_columns(self):
        for steps in all_steps():
            self.assert_numbers(factors_of_row(row_of_steps(steps)), factors_by_steps(steps), steps)

    def test_small_and_great_boards_of_either_kind(self):
        seen = {}
        for board in itertools.chain(small_boards(), great_boards()):
            row = row_of(board)
            seen.setdefault(tuple(row), board)
        for row, board in seen.items():
            told = factors_of_row(list(row))
            self.assert_numbers(told, factors_by_slopes(row), board)
            self.assertTrue(all(-7 <= factor <= 8 for factor in told), board)
            self.assertLessEqual(len(told), 8, board)

    def test_fewer_than_eight_and_none_are_among_them(self):
        many = {len(factors_of_row(row_of(board))) for board, factors in OTHER_ROWS}
        self.assertEqual(many, {0, 1, 2, 3, 4, 5, 6, 8})

    def test_somewhat_greater_boards_are_not_refused(self):
        steps = tuple("x" * size + "." * (10 - size) for size in range(1, 11))
        for board in (("x" * 10,) * 9, ("x" * 9,) * 8, ("x" * 12,), steps):
            self.assert_numbers(factors_of_row(row_of(board)), factors_of(board), board)


class Steadiness(Asked):
    def test_what_is_handed_in_stays(self):
        for board, steps, factors in STAIRS:
            some = list(factors)
            row_by_factors(some)
            self.assertEqual(some, factors)
            numbers = row_of(board)
            factors_of_row(numbers)
            self.assertEqual(numbers, row_of(board))
        for board, factors in OTHER_ROWS:
            numbers = row_of(board)
            factors_of_row(numbers)
            self.assertEqual(numbers, row_of(board))

    def assert_own(self, ask, thing, other):
        told = ask(thing)
        asked = list(told)
        self.assertIsNot(told, thing)
        told.append(99)
        told[0] = None
        ask(other)
        again = ask(thing)
        self.assertEqual(again, asked, thing)
        again.clear()
        self.assertEqual(ask(thing), asked, thing)

    def test_told_lists_are_the_askers_own(self):
        for board, steps, factors in STAIRS:
            self.assert_own(steps_of, board, ("xxx", "x.."))
            self.assert_own(factors_of, board, ("xxx", "x.."))
            self.assert_own(row_by_factors, list(factors), [0] * 8)
            self.assert_own(factors_of_row, row_of(board), [1, 4, 2])

    def test_the_same_answer_behind_a_refusal(self):
        for board, rows in NO_STAIRS:
            for ask in (steps_of, factors_of):
                self.assert_no_stair(ask, board, rows)
                self.assertEqual(ask(("xx", ".x")), [1, 2] if ask is steps_of else [-5, -5, -5, -4, -3, -2, -1, 0])
                self.assert_no_stair(ask, board, rows)


if __name__ == "__main__":
    unittest.main()
