"""Small reckonings with whole numbers that several modules share."""


def number_at(numbers, place):
    return numbers[place] if place < len(numbers) else 0


def falling(number, factors):
    product = 1
    for less in range(factors):
        product = product * (number - less)
    return product


def ways(things, taken):
    if not 0 <= taken <= things:
        return 0
    # Each choice stands among the falling product as often as what is taken can be put in order.
    return falling(things, taken) // falling(taken, taken)


def signed(number, turns):
    return number if turns % 2 == 0 else -number
