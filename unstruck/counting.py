"""The row of a board, counted row by row, and its rests."""

from unstruck.boards import CELL


def bits_of(line):
    # A bit for each column lets one whole number say which columns are taken.
    bits = []
    bit = 1
    for sign in line:
        if sign == CELL:
            bits.append(bit)
        bit = bit * 2
    return bits


def with_line(levels, bits):
    # Placings that take the same columns go on alike, so they are counted together.
    after = [dict(level) for level in levels] + [{}]
    for size, level in enumerate(levels):
        above = after[size + 1]
        for taken, count in level.items():
            for bit in bits:
                if taken & bit == 0:
                    above[taken | bit] = above.get(taken | bit, 0) + count
    return after


def row_of(board):
    levels = [{0: 1}]
    for line in board:
        levels = with_line(levels, bits_of(line))
    # A size without placings has none above it either: what is left out stands at the end alone.
    return [sum(level.values()) for level in levels if len(level) > 0]


def rests_of(board, divisor):
    return [number % divisor for number in row_of(board)]
