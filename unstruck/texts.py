"""A board's text, read and written."""

from unstruck.boards import is_board
from unstruck.errors import NoBoard


def read_board(text):
    if not isinstance(text, str):
        raise NoBoard()
    board = tuple(text.split("\n"))
    if not is_board(board):
        raise NoBoard()
    return board


def written(board):
    return "\n".join(board)
