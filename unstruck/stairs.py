"""Stairs, their steps and factors, and rows of numbers by factors, there and back."""

from unstruck.boards import CELL, GREATEST_SIDE, columns_in
from unstruck.errors import NoStair
from unstruck.parts import product_of
from unstruck.reckoning import number_at
from unstruck.resting import without_last_noughts


def has_all_of(line, other):
    return all([line[column] == CELL for column in columns_in(other)])


def crossing_rows(board):
    for row, line in enumerate(board):
        for below in range(row + 1, len(board)):
            other = board[below]
            if not has_all_of(line, other) and not has_all_of(other, line):
                return (row, below)
    return None


def steps_of(board):
    rows = crossing_rows(board)
    if rows is not None:
        raise NoStair(rows)
    return sorted([line.count(CELL) for line in board])


def factors_of(board):
    steps = steps_of(board)
    noughts = [0] * (GREATEST_SIDE - len(steps))
    return sorted([step - place for place, step in enumerate(noughts + steps)])


def divided(powers, factor):
    # From the highest power down; behind the numbers of the quotient stands what is left over.
    numbers = []
    carried = 0
    for number in reversed(powers):
        carried = number - factor * carried
        numbers.append(carried)
    return numbers


def quotient_of(numbers):
    return numbers[:-1][::-1]


def row_by_factors(some):
    powers = [1]
    for factor in some:
        powers = product_of(powers, [factor, 1])
    numbers = []
    # x falling k + 1 is x falling k times (x - k): what is left over by each (x - k) in turn is the number for k.
    for place in range(len(some) + 1):
        parted = divided(powers, -place)
        numbers.append(parted[-1])
        powers = quotient_of(parted)
    return without_last_noughts(numbers[::-1])


def powers_of(numbers, size):
    powers = [1]
    # The same the other way: each number of the row comes with one factor less than the one ahead of it.
    for place in range(1, size + 1):
        powers = product_of(powers, [place - size, 1])
        powers[0] += number_at(numbers, place)
    return powers


def factors_of_row(numbers):
    # The row of a board somewhat beyond the greatest side may have a number behind the last one of the sum.
    size = max(GREATEST_SIDE, len(numbers) - 1)
    # No factor lies above the size and above how many columns have cells, which are no more than the cells.
    greatest = max(size, number_at(numbers, 1))
    powers = powers_of(numbers, size)
    factors = []
    for factor in range(1 - size, greatest + 1):
        parted = divided(powers, factor)
        while parted[-1] == 0:
            factors.append(factor)
            powers = quotient_of(parted)
            parted = divided(powers, factor)
    return factors
