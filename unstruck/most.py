"""The most pieces that can be placed, lines that cover the board, and a bare part of it."""

from unstruck.boards import columns_in


def takes_column(choices, holders, row, tried):
    for column in choices[row]:
        if column not in tried:
            tried[column] = True
            # A column that is held comes free where its holder can take another one.
            if column not in holders or takes_column(choices, holders, holders[column], tried):
                holders[column] = row
                return True
    return False


def holders_of(choices):
    holders = {}
    for row in range(len(choices)):
        takes_column(choices, holders, row, {})
    return holders


def others(size, numbers):
    return [number for number in range(size) if number not in numbers]


def reached(choices, holders):
    # A row without a column reaches those in which it has cells, these reach their holders, and so on.
    rows = others(len(choices), list(holders.values()))
    columns = []
    place = 0
    while place < len(rows):
        row = rows[place]
        for column in choices[row]:
            if column not in columns:
                columns.append(column)
                # It has a holder: a free column would have let one more piece be placed.
                rows.append(holders[column])
        place += 1
    return (rows, columns)


def most_of(board):
    choices = [columns_in(line) for line in board]
    holders = holders_of(choices)
    placing = tuple(sorted([(row, column) for column, row in holders.items()]))
    # Reached rows have cells in reached columns alone; each piece lies in one of these or in a row not reached,
    # never in both, so that these lines cover the board and are as many as the pieces.
    reach = reached(choices, holders)
    return (placing, others(len(board), reach[0]), sorted(reach[1]))


def bare_of(board):
    told = most_of(board)
    return (others(len(board), told[1]), others(len(board[0]), told[2]))
