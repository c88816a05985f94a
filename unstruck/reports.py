"""The report of a board's text."""

from unstruck.boards import cells_of
from unstruck.counting import row_of
from unstruck.errors import NoStair
from unstruck.hits import hits_of
from unstruck.most import most_of
from unstruck.stairs import factors_of
from unstruck.texts import read_board


def line_of(words):
    return " ".join([str(word) for word in words])


def words_of_most(board):
    told = most_of(board)
    return ["most", len(told[0]), "rows"] + told[1] + ["columns"] + told[2]


def words_of_factors(board):
    try:
        return ["factors"] + factors_of(board)
    except NoStair as refusal:
        return ["none"] + list(refusal.rows)


def report(text):
    board = read_board(text)
    lines = [
        ["cells", len(cells_of(board))],
        ["row"] + row_of(board),
        ["hits"] + hits_of(board),
        words_of_most(board),
        words_of_factors(board),
    ]
    return "\n".join([line_of(words) for words in lines])
