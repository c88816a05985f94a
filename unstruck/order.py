"""Placings of one size in order, each by its number, and the next one."""

from unstruck.boards import cells_of, columns_in, is_placing
from unstruck.counting import bits_of, with_line
from unstruck.errors import NoPlacing
from unstruck.most import holders_of


def tails_of(board):
    # The tail of a row counts the placings in it and the rows below, by size and by the columns that they take.
    tails = [[{0: 1}]]
    for line in reversed(board):
        tails = [with_line(tails[0], bits_of(line))] + tails
    return tails


def row_behind(begun):
    return begun[-1][0] + 1 if len(begun) > 0 else 0


def columns_taken(begun):
    return [cell[1] for cell in begun]


def number_beginning(tails, begun, size):
    tail = tails[row_behind(begun)]
    further = size - len(begun)
    if not 0 <= further < len(tail):
        return 0
    taken = sum([1 << column for column in columns_taken(begun)])
    return sum([count for columns, count in tail[further].items() if columns & taken == 0])


def placing_at(board, size, number):
    tails = tails_of(board)
    if not 0 <= number < number_beginning(tails, (), size):
        raise NoPlacing()
    begun = ()
    left = number
    for cell in cells_of(board):
        start = begun + (cell,)
        if is_placing(board, start):
            count = number_beginning(tails, start, size)
            # All that begin so come ahead of all that have a later cell in its place.
            if left < count:
                begun = start
            else:
                left -= count
    return begun


def start_at(placing, cell):
    return tuple([other for other in placing if other < cell]) + (cell,)


def number_of(board, placing):
    if not is_placing(board, placing):
        raise NoPlacing()
    tails = tails_of(board)
    # What comes ahead goes along with the placing for a while, then has a cell ahead of its next one.
    starts = [start_at(placing, cell) for cell in cells_of(board) if cell not in placing]
    return sum([number_beginning(tails, start, len(placing)) for start in starts if is_placing(board, start)])


def free_columns(line, taken):
    return [column for column in columns_in(line) if column not in taken]


def goes_on(board, begun, size):
    taken = columns_taken(begun)
    choices = [free_columns(line, taken) for line in board[row_behind(begun):]]
    # Rows that can hold a column each are as many as further pieces can be placed; to count these would be slow.
    return 0 <= size - len(begun) <= len(holders_of(choices))


def first_behind(board, begun, last, size):
    found = begun
    for cell in cells_of(board):
        start = found + (cell,)
        if cell > last and is_placing(board, start) and goes_on(board, start, size):
            found = start
    return found


def next_placing(board, placing):
    if not is_placing(board, placing):
        raise NoPlacing()
    # The next one goes along with the placing as far as can be, so the last cell is tried first.
    for place in range(len(placing) - 1, -1, -1):
        found = first_behind(board, placing[:place], placing[place], len(placing))
        if len(found) == len(placing):
            return found
    return None
