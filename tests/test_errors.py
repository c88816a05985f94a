import unittest

from unstruck.errors import BoardError, NoBoard, NoPlacing, NoStair, TooGreat

KINDS = (NoBoard, NoPlacing, NoStair, TooGreat)


class ErrorClasses(unittest.TestCase):
    def test_all_stand_straight_under_board_error(self):
        self.assertEqual(BoardError.__bases__, (ValueError,))
        for kind in KINDS:
            self.assertEqual(kind.__bases__, (BoardError,), kind)

    def test_none_stands_under_another(self):
        for one in KINDS:
            for other in KINDS:
                self.assertEqual(issubclass(one, other), one is other, (one, other))

    def test_all_are_made_without_anything_and_taken_as_board_error(self):
        for kind in KINDS + (BoardError,):
            with self.assertRaises(BoardError) as taken:
                raise kind()
            self.assertIs(type(taken.exception), kind)

    def test_no_stair_keeps_its_rows(self):
        self.assertEqual(NoStair((0, 1)).rows, (0, 1))
        self.assertEqual(NoStair(rows=(2, 5)).rows, (2, 5))

    def test_no_stair_without_rows(self):
        self.assertIsNone(NoStair().rows)

    def test_each_no_stair_has_rows_of_its_own(self):
        first = NoStair((0, 1))
        NoStair((3, 4))
        self.assertEqual(first.rows, (0, 1))


if __name__ == "__main__":
    unittest.main()
