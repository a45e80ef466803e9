"""Laying: a like board of each size that has one."""

from likesums.boards import LARGEST_SIZE
from likesums.errors import NoSize

# The two rows of each block have one sum, its columns and long ways do not: the blocks on a line of the
# whole board make up for one another.
LEFT_HEAVY = ((4, 1), (2, 3))
RIGHT_HEAVY = ((1, 4), (2, 3))
CROSSED = ((1, 4), (3, 2))


def laid(size):
    if size < 1 or size > LARGEST_SIZE or size == 2:
        raise NoSize(f"there are like boards of each size from 1 to {LARGEST_SIZE} but 2")
    if size % 2 == 1:
        return board_from(size, odd_number)
    if size % 4 == 0:
        return board_from(size, fourfold_number)
    return board_from(size, block_number)


def board_from(size, number_at):
    board = []
    for r in range(size):
        board.append([number_at(size, r, c) for c in range(size)])
    return board


# A number less one has two digits to the base of the size; each digit by itself has one sum on all lines.
def odd_number(size, r, c):
    high = (r + c + 1 + size // 2) % size
    low = (r + 2 * c + 1) % size
    return size * high + low + 1


# Half of each line is counted from the start and half from the end, so that what is too much in the one
# is too little in the other.
def fourfold_number(size, r, c):
    from_start = size * r + c + 1
    if is_outer(r) == is_outer(c):
        return size * size + 1 - from_start
    return from_start


def is_outer(place):
    return place % 4 in (0, 3)


# Each cell of a like board of half the size, which is odd, becomes a block of four numbers on end.
def block_number(size, r, c):
    half = size // 2
    before = 4 * (odd_number(half, r // 2, c // 2) - 1)
    return before + block_at(half, r // 2, c // 2)[r % 2][c % 2]


def block_at(half, r, c):
    middle = half // 2
    if r < middle:
        return LEFT_HEAVY
    if r > middle + 1:
        return CROSSED
    # Of these two rows the first is left-heavy, the second right-heavy; they are changed over in the
    # middle column, so that the long ways come out even too.
    if (r == middle) == (c == middle):
        return RIGHT_HEAVY
    return LEFT_HEAVY
