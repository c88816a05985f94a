"""Boards, their cells, boards made of boards, and placings."""

CELL = "x"
HOLE = "."
GREATEST_SIDE = 8


def is_side(number):
    return 1 <= number <= GREATEST_SIDE


def is_line(thing):
    # The size is asked ahead of the signs, so that a great text is not walked for nothing.
    if not isinstance(thing, str) or not is_side(len(thing)):
        return False
    return all([sign in (CELL, HOLE) for sign in thing])


def is_board(thing):
    if not isinstance(thing, tuple) or not is_side(len(thing)):
        return False
    if not all([is_line(line) for line in thing]):
        return False
    return all([len(line) == len(thing[0]) for line in thing])


def cells_of(board):
    cells = []
    for row, line in enumerate(board):
        for column, sign in enumerate(line):
            if sign == CELL:
                cells.append((row, column))
    return cells


def columns_in(line):
    return [column for column, sign in enumerate(line) if sign == CELL]


def column_of(board, column):
    return "".join([line[column] for line in board])


def laid_over(board):
    return tuple([column_of(board, column) for column in range(len(board[0]))])


def mirrored(board):
    return tuple([line[::-1] for line in board])


def rest_of_line(line):
    return "".join([HOLE if sign == CELL else CELL for sign in line])


def rest_of(board):
    return tuple([rest_of_line(line) for line in board])


def exchanged_line(line, columns):
    return "".join([line[column] for column in columns])


def exchanged(board, rows, columns):
    return tuple([exchanged_line(board[row], columns) for row in rows])


def is_number(thing):
    # Python counts the two truths among the whole numbers; the program does not.
    return isinstance(thing, int) and not isinstance(thing, bool)


def is_cell(board, thing):
    if not isinstance(thing, tuple) or len(thing) != 2:
        return False
    row = thing[0]
    column = thing[1]
    if not is_number(row) or not is_number(column):
        return False
    # Python would read a number below 0 from the board's other end.
    if not 0 <= row < len(board) or not 0 <= column < len(board[0]):
        return False
    return board[row][column] == CELL


def is_placing(board, thing):
    if not isinstance(thing, tuple):
        return False
    if not all([is_cell(board, part) for part in thing]):
        return False
    rows = [cell[0] for cell in thing]
    columns = [cell[1] for cell in thing]
    # Cells in order, of which no two share a row, have rows that rise; their columns may stand anyhow.
    return rows == sorted(set(rows)) and len(set(columns)) == len(columns)
