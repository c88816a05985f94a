"""Three kinds of strikes, and all placings of a kind and a size."""

from unstruck.boards import cells_of
from unstruck.errors import TooGreat

STRAIGHT = "straight"
ASLANT = "aslant"
MOST_PLACINGS = 1000


def is_straight(one, other):
    return one[0] == other[0] or one[1] == other[1]


def is_aslant(one, other):
    return abs(one[0] - other[0]) == abs(one[1] - other[1])


def struck(kind, one, other):
    if kind == STRAIGHT:
        return is_straight(one, other)
    if kind == ASLANT:
        return is_aslant(one, other)
    return is_straight(one, other) or is_aslant(one, other)


def not_struck(kind, cell, cells):
    return [other for other in cells if not struck(kind, cell, other)]


def with_one_more(kind, level, room):
    above = []
    for placing, free in level:
        for place, cell in enumerate(free):
            # Cells ahead of this one were taken in their turn, so that each placing comes once, and in order.
            above.append((placing + (cell,), not_struck(kind, cell, free[place + 1:])))
        # Asked on the way, so that a great board is refused before it is gone through.
        if len(above) > room:
            raise TooGreat()
    return above


def all_placings(kind, board, size):
    level = [((), cells_of(board))]
    room = MOST_PLACINGS - 1
    for more in range(size):
        level = with_one_more(kind, level, room)
        room -= len(level)
    # Of a size below 0, which takes no step, there are none.
    return [placing for placing, free in level if len(placing) == size]
