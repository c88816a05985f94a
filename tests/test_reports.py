import inspect
import itertools
import unittest

from unstruck import reports
from unstruck.boards import cells_of
from unstruck.counting import row_of
from unstruck.errors import NoBoard, NoStair
from unstruck.hits import hits_of
from unstruck.most import most_of
from unstruck.reports import report
from unstruck.stairs import factors_of
from unstruck.texts import written

# Each with all of its lines but the one of the most, and with the most; these were reckoned by hand.
KNOWN = (
    # The document's own.
    (("xx", ".x"), "cells 3", "row 1 3 1", "hits 0 1 1", 2, "factors -5 -5 -5 -4 -3 -2 -1 0"),
    # Without cells.
    ((".",), "cells 0", "row 1", "hits 1 0", 0, "factors -7 -6 -5 -4 -3 -2 -1 0"),
    (("...", "..."), "cells 0", "row 1", "hits 6 0 0", 0, "factors -7 -6 -5 -4 -3 -2 -1 0"),
    (("........",) * 8, "cells 0", "row 1", "hits 40320 0 0 0 0 0 0 0 0", 0, "factors -7 -6 -5 -4 -3 -2 -1 0"),
    # Full ones.
    (("x",), "cells 1", "row 1 1", "hits 0 1", 1, "factors -6 -6 -5 -4 -3 -2 -1 0"),
    (("xx", "xx"), "cells 4", "row 1 4 2", "hits 0 0 2", 2, "factors -5 -5 -4 -4 -3 -2 -1 0"),
    (
        ("xxxxxxxx",) * 8, "cells 64", "row 1 64 1568 18816 117600 376320 564480 322560 40320",
        "hits 0 0 0 0 0 0 0 0 40320", 8, "factors 1 2 3 4 5 6 7 8",
    ),
    # One row, one column.
    (("x.xx.x.x",), "cells 5", "row 1 5", "hits 3 5", 1, "factors -6 -5 -4 -3 -2 -2 -1 0"),
    (("x", ".", "x", "x"), "cells 3", "row 1 3", "hits 1 3", 1, "factors -6 -5 -4 -4 -3 -2 -1 0"),
    (("........",), "cells 0", "row 1", "hits 8 0", 0, "factors -7 -6 -5 -4 -3 -2 -1 0"),
    # Other stairs, their rows and columns in any order.
    ((".x.", "xxx", "xx."), "cells 6", "row 1 6 7 1", "hits 0 1 4 1", 3, "factors -4 -4 -4 -4 -3 -2 -1 0"),
    (("xxx", "x..", "x.."), "cells 5", "row 1 5 4", "hits 0 2 4 0", 2, "factors -5 -4 -4 -4 -3 -2 -1 0"),
    # None.
    (("x.", ".x"), "cells 2", "row 1 2 1", "hits 1 0 1", 2, "none 0 1"),
    (("xxx", "x..", ".x."), "cells 5", "row 1 5 5 1", "hits 0 3 2 1", 3, "none 1 2"),
    (("x..", "xxx", ".x."), "cells 5", "row 1 5 5 1", "hits 0 3 2 1", 3, "none 0 2"),
    (("x..", ".x.", "..x"), "cells 3", "row 1 3 3 1", "hits 2 3 0 1", 3, "none 0 1"),
)

GREAT = (
    ("x.x.x.x.", ".x.x.x.x") * 4,
    ("xxx.x.xx", ".xx.xxx.", "x.xx.x.x", "xx.x..xx", ".x.xxx.x", "x.x.xx.x", "xx..x.xx", "..xxx.x."),
    ("xxx.....", "xxx.....", "...x....", "....xx..", "....x...", "......xx", "......x.", "........"),
    ("...x....", "...x....", "xxxxxxxx", "...x....", "...x....", "...x....", "...x....", "...x...."),
    tuple("x" * size + "." * (8 - size) for size in range(1, 9)),
    ("xxxxxxxx",) * 3,
    ("xxx",) * 8,
    ("xxxxxxxx",) * 6 + ("x.......", ".......x"),
    ("xx......",) * 6 + ("xxxxxxxx",) * 2,
)

NO_TEXTS = (
    "",
    "\n",
    "\nx",
    "x\n",
    "xx\n.x\n",
    "xx\n\n.x",
    " x",
    "x ",
    "x x",
    "o",
    "X",
    "xx\nx",
    "x\nxx",
    "\n".join(["x"] * 9),
    "x" * 9,
    "\n".join(["." * 9] * 9),
    "x\r\nx",
    "cells 3\nrow 1 3 1",
    "('xx', '.x')",
    None,
    0,
    1,
    -5,
    1.5,
    True,
    False,
    [],
    ["x"],
    ["xx", ".x"],
    (),
    ("x",),
    ("xx", ".x"),
    {},
    {"x": "x"},
    {"x"},
    b"x",
    object(),
    str,
)


def small_boards():
    for height, width in itertools.product(range(1, 5), repeat=2):
        if height * width <= 8:
            lines = ["".join(signs) for signs in itertools.product("x.", repeat=width)]
            yield from itertools.product(lines, repeat=height)


def numbers_in(words):
    """Numbers as they are written plainly: the text of each is the word that stands there."""
    numbers = [int(word) for word in words]
    if [str(number) for number in numbers] != words:
        raise AssertionError(words)
    return numbers


class Asked(unittest.TestCase):
    def lines_of(self, board):
        text = report(written(board))
        self.assertIs(type(text), str, board)
        self.assertRegex(text, r"\A[a-z0-9 \n-]+\Z", board)
        lines = text.split("\n")
        self.assertEqual(len(lines), 5, board)
        for line in lines:
            # One blank between two words, none ahead of the first and none behind the last.
            self.assertEqual(line, " ".join(line.split()), board)
        return lines

    def assert_most(self, line, board, most):
        words = line.split(" ")
        self.assertEqual((words[0], words[2]), ("most", "rows"), board)
        self.assertEqual(numbers_in(words[1:2]), [most], board)
        middle = words.index("columns")
        rows = numbers_in(words[3:middle])
        columns = numbers_in(words[middle + 1:])
        self.assertEqual(rows, sorted(set(rows)), board)
        self.assertEqual(columns, sorted(set(columns)), board)
        self.assertTrue(set(rows) <= set(range(len(board))), board)
        self.assertTrue(set(columns) <= set(range(len(board[0]))), board)
        self.assertEqual(len(rows) + len(columns), most, board)
        for row, line in enumerate(board):
            for column, sign in enumerate(line):
                self.assertTrue(sign == "." or row in rows or column in columns, board)

    def assert_numbers(self, line, name, numbers, board):
        words = line.split(" ")
        self.assertEqual(words[0], name, board)
        self.assertEqual(numbers_in(words[1:]), numbers, board)

    def assert_agrees(self, board):
        lines = self.lines_of(board)
        self.assert_numbers(lines[0], "cells", [len(cells_of(board))], board)
        self.assert_numbers(lines[1], "row", row_of(board), board)
        self.assert_numbers(lines[2], "hits", hits_of(board), board)
        self.assert_most(lines[3], board, len(most_of(board)[0]))
        try:
            factors = factors_of(board)
        except NoStair as refusal:
            self.assert_numbers(lines[4], "none", list(refusal.rows), board)
        else:
            self.assert_numbers(lines[4], "factors", factors, board)


class Interface(unittest.TestCase):
    def test_name_and_argument(self):
        self.assertEqual(list(inspect.signature(reports.report).parameters), ["text"])


class Report(Asked):
    def test_the_documents_own(self):
        lines = report("xx\n.x").split("\n")
        self.assertEqual(lines[:3], ["cells 3", "row 1 3 1", "hits 0 1 1"])
        self.assertIn(lines[3], (
            "most 2 rows 0 1 columns", "most 2 rows columns 0 1", "most 2 rows 0 columns 1",
        ))
        self.assertEqual(lines[4:], ["factors -5 -5 -5 -4 -3 -2 -1 0"])

    def test_known_boards(self):
        for board, cells, row, hits, most, last in KNOWN:
            lines = self.lines_of(board)
            self.assertEqual(lines[:3], [cells, row, hits], board)
            self.assert_most(lines[3], board, most)
            self.assertEqual(lines[4], last, board)

    def test_lines_that_cover_where_there_is_one_choice_alone(self):
        for text, line in (
            (".", "most 0 rows columns"),
            ("..\n..", "most 0 rows columns"),
            ("..x.xx", "most 1 rows 0 columns"),
            ("...\nxxx\n...", "most 1 rows 1 columns"),
            (".x\n.x\n.x", "most 1 rows columns 1"),
            (".x.x\n.x.x\n.x.x", "most 2 rows columns 1 3"),
            ("xxx\n...\nxxx", "most 2 rows 0 2 columns"),
            ("xxx\nx..\nx..", "most 2 rows 0 columns 0"),
            ("..x.\n..x.\nxxxx\n..x.", "most 2 rows 2 columns 2"),
        ):
            self.assertEqual(report(text).split("\n")[3], line, text)

    def test_each_line_against_the_other_functions(self):
        for board in itertools.chain(small_boards(), GREAT, [known[0] for known in KNOWN]):
            self.assert_agrees(board)

    def test_boards_without_cells_and_full_ones(self):
        for height, width in itertools.product(range(1, 9), repeat=2):
            self.assert_agrees(("." * width,) * height)
            self.assert_agrees(("x" * width,) * height)


class Refused(Asked):
    def test_what_is_no_boards_text(self):
        asked = report("x.\n.x")
        for thing in NO_TEXTS:
            with self.assertRaises(NoBoard, msg=repr(thing)) as taken:
                report(thing)
            self.assertIs(type(taken.exception), NoBoard)
            self.assertEqual(report("x.\n.x"), asked)

    def test_every_sign_but_two(self):
        for code in range(32, 127):
            sign = chr(code)
            if sign not in ("x", "."):
                for text in (sign, "x" + sign, "x.\n." + sign):
                    with self.assertRaises(NoBoard, msg=repr(text)):
                        report(text)


class Steadiness(Asked):
    def test_what_is_handed_in_stays(self):
        lines = ["xx", ".x"]
        with self.assertRaises(NoBoard):
            report(lines)
        self.assertEqual(lines, ["xx", ".x"])

    def test_the_same_question_has_the_same_answer(self):
        boards = [known[0] for known in KNOWN] + list(GREAT)
        first = [report(written(board)) for board in boards]
        for board in boards:
            row_of(board).clear()
            most_of(board)[1].append(99)
        self.assertEqual([report(written(board)) for board in boards[::-1]], first[::-1])


if __name__ == "__main__":
    unittest.main()
