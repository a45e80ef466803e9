"""Boards: what counts as one, the sums of its lines, and whether it is like."""

from likesums.errors import BadBoard

LARGEST_SIZE = 12


# The refusals name no number that was handed in: it may be too long to be written out.
def check_board(board):
    size = len(board)
    if size < 1 or size > LARGEST_SIZE:
        raise BadBoard(f"a board has from 1 to {LARGEST_SIZE} rows")
    for row in board:
        if len(row) != size:
            raise BadBoard("a board has as many columns as rows")
    if sorted(joined(board)) != list(range(1, size * size + 1)):
        raise BadBoard("a board has each number from 1 to the count of its cells once")


def joined(lists):
    numbers = []
    for part in lists:
        numbers.extend(part)
    return numbers


def column(board, place):
    return [row[place] for row in board]


def sums(board):
    check_board(board)
    return (row_sums(board), column_sums(board), long_way_sums(board))


def row_sums(board):
    return [sum(row) for row in board]


def column_sums(board):
    return [sum(column(board, place)) for place in range(len(board))]


def long_way_sums(board):
    last = len(board) - 1
    falling = [board[k][k] for k in range(len(board))]
    rising = [board[k][last - k] for k in range(len(board))]
    return [sum(falling), sum(rising)]


def is_like(board):
    line_sums = joined(sums(board))
    return min(line_sums) == max(line_sums)
