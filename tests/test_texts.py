import inspect
import itertools
import unittest

from unstruck import texts
from unstruck.errors import NoBoard
from unstruck.texts import read_board, written

PAIRS = (
    (("x",), "x"),
    ((".",), "."),
    (("x.xx.x.x",), "x.xx.x.x"),
    (("x", ".", "x"), "x\n.\nx"),
    (("xx", ".x"), "xx\n.x"),
    (("x.x", ".xx"), "x.x\n.xx"),
    (("x.", "..", "xx"), "x.\n..\nxx"),
    (("xxxxxxxx",) * 8, "\n".join(["xxxxxxxx"] * 8)),
    (("........",) * 8, "\n".join(["........"] * 8)),
)

NO_TEXTS = (
    "",
    "\n",
    "\n\n",
    "\nx",
    "x\n",
    "\nxx\n.x",
    "xx\n.x\n",
    "xx\n\n.x",
    "x\n\nx",
    " ",
    " x",
    "x ",
    "x x",
    "x \nx ",
    "x\n .",
    "o",
    "X",
    "x\no",
    "xo\nxx",
    "x,x",
    "xx.x/x..x",
    "0",
    "~",
    "xx\nx",
    "x\nxx",
    "xx\nxx\nxxx",
    "\n".join(["x"] * 9),
    "\n".join(["........"] * 9),
    "x" * 9,
    "\n".join(["." * 9] * 8),
    "\n".join(["." * 9] * 9),
    "x" * 1000,
    "('x',)",
    None,
    0,
    1,
    -5,
    1.5,
    True,
    False,
    [],
    ["x"],
    ["xx", ".x"],
    (),
    ("x",),
    ("xx", ".x"),
    {},
    {"x": "x"},
    {"x"},
    b"x",
    object(),
    str,
)


class Interface(unittest.TestCase):
    def test_names_and_arguments(self):
        for name, arguments in (("read_board", ["text"]), ("written", ["board"])):
            self.assertEqual(list(inspect.signature(getattr(texts, name)).parameters), arguments, name)


class ThereAndBack(unittest.TestCase):
    def test_written(self):
        for board, text in PAIRS:
            self.assertEqual(written(board), text)
            self.assertIs(type(written(board)), str)

    def test_read(self):
        for board, text in PAIRS:
            told = read_board(text)
            self.assertEqual(told, board)
            self.assertIs(type(told), tuple)
            self.assertEqual({type(line) for line in told}, {str})

    def test_every_size(self):
        for height, width in itertools.product(range(1, 9), repeat=2):
            board = tuple("".join("x."[(row * column) % 2] for column in range(width)) for row in range(height))
            self.assertEqual(read_board(written(board)), board)

    def test_all_small_boards(self):
        for height, width in itertools.product(range(1, 4), repeat=2):
            lines = ["".join(signs) for signs in itertools.product("x.", repeat=width)]
            for board in itertools.product(lines, repeat=height):
                self.assertEqual(read_board(written(board)), board)

    def test_just_the_texts_that_are_written_are_read(self):
        for size in range(6):
            for signs in itertools.product("x.\n ", repeat=size):
                text = "".join(signs)
                lines = text.split("\n")
                good = set(text) <= set("x.\n") and lines[0] != "" and len({len(line) for line in lines}) == 1
                if good:
                    self.assertEqual(written(read_board(text)), text)
                else:
                    with self.assertRaises(NoBoard):
                        read_board(text)


class Refused(unittest.TestCase):
    def test_what_is_no_boards_text(self):
        for thing in NO_TEXTS:
            with self.assertRaises(NoBoard, msg=repr(thing)) as taken:
                read_board(thing)
            self.assertIs(type(taken.exception), NoBoard)

    def test_every_sign_but_two(self):
        for code in range(32, 127):
            sign = chr(code)
            if sign in ("x", "."):
                self.assertEqual(read_board(sign + "\nx"), (sign, "x"))
                continue
            for text in (sign, "x" + sign, "x.\n." + sign):
                with self.assertRaises(NoBoard, msg=repr(text)):
                    read_board(text)

    def test_other_line_ends(self):
        for text in ("x\r\nx", "x\rx", "x\tx", "x\x0bx", "x\x0cx", "x\u2028x"):
            with self.assertRaises(NoBoard, msg=repr(text)):
                read_board(text)


class Steadiness(unittest.TestCase):
    def test_what_is_handed_in_stays(self):
        lines = ["xx", ".x"]
        with self.assertRaises(NoBoard):
            read_board(lines)
        self.assertEqual(lines, ["xx", ".x"])

    def test_the_same_question_has_the_same_answer(self):
        for turn in range(2):
            for board, text in PAIRS:
                self.assertEqual(read_board(text), board)
                with self.assertRaises(NoBoard):
                    read_board(text + "\n")
                self.assertEqual(written(board), text)


if __name__ == "__main__":
    unittest.main()
