"""Turned lists, and the labels of entries."""

from bridgefind.entries import code

# by the turns the codes, of 209 binary figures at most, come down to at most 417, 17, 9, 7 and 5
TURNS = 5


def lowest_unlike(one, other):
    unlike = one ^ other
    # a number and its negative share just the lowest figure that is 1
    return (unlike & -unlike).bit_length() - 1


def turned(numbers):
    told = []
    for at, number in enumerate(numbers):
        if at == 0:
            told.append(number % 2)
        else:
            figure = lowest_unlike(numbers[at - 1], number)
            told.append(2 * figure + ((number >> figure) & 1))
    return told


def labels(entries):
    numbers = [code(entry) for entry in entries]
    for turn in range(TURNS):
        numbers = turned(numbers)
    return numbers
