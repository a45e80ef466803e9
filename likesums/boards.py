"""Boards: what counts as one, the sums of its lines, and whether it is like."""

from likesums.errors import BadBoard

LARGEST_SIZE = 12


def check_board(board):
    check_square(board, LARGEST_SIZE)
    if sorted(joined(board)) != list(range(1, len(board) * len(board) + 1)):
        raise BadBoard("a board has each number from 1 to the count of its cells once")


# The refusals name no number that was handed in: it may be too long to be written out.
def check_square(board, largest):
    size = len(board)
    if size < 1 or size > largest:
        raise BadBoard(f"the board must have from 1 to {largest} rows")
    for row in board:
        if len(row) != size:
            raise BadBoard("the board must have as many columns as rows")


def joined(lists):
    numbers = []
    for part in lists:
        numbers.extend(part)
    return numbers


def column(board, place):
    return [row[place] for row in board]


def columns(board):
    return [column(board, place) for place in range(len(board))]


def long_ways(board):
    last = len(board) - 1
    falling = [board[k][k] for k in range(len(board))]
    rising = [board[k][last - k] for k in range(len(board))]
    return [falling, rising]


def line_sums(lines):
    return [sum(line) for line in lines]


def sums(board):
    check_board(board)
    return (line_sums(board), line_sums(columns(board)), line_sums(long_ways(board)))


def is_like(board):
    every_sum = joined(sums(board))
    return min(every_sum) == max(every_sum)
