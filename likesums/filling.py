"""Filling: the like boards that come of an open board."""

from likesums.boards import check_square, columns, is_like, joined, long_ways
from likesums.errors import BadBoard, TooOpen

LARGEST_OPEN_SIZE = 4
MOST_OPEN_CELLS = 6
OPEN_MARK = 0


def fillings(board):
    check_open_board(board)
    check_not_too_open(board)
    found = [copied(board)]
    # The cells go in reading order and their numbers rise, so that the fillings come sorted.
    for cell in open_cells(board):
        found = joined([filled_at(partly, cell) for partly in found])
    return [full for full in found if is_like(full)]


def how_many(board):
    return len(fillings(board))


def check_open_board(board):
    check_square(board, LARGEST_OPEN_SIZE)
    placed = [number for number in joined(board) if number != OPEN_MARK]
    if len(set(placed)) != len(placed):
        raise BadBoard("an open board has no number twice")
    for number in placed:
        if number < 1 or number > len(board) * len(board):
            raise BadBoard("an open board has numbers from 1 to the count of its cells")


# Smaller boards are searched through whole in a short time, however open they are.
def check_not_too_open(board):
    if len(board) == LARGEST_OPEN_SIZE and len(open_cells(board)) > MOST_OPEN_CELLS:
        raise TooOpen(f"an open board of size {LARGEST_OPEN_SIZE} has at most {MOST_OPEN_CELLS} open cells")


def copied(board):
    return [list(row) for row in board]


def open_cells(board):
    cells = []
    for r, row in enumerate(board):
        cells.extend([(r, c) for c, number in enumerate(row) if number == OPEN_MARK])
    return cells


def missing_numbers(board):
    placed = joined(board)
    return [number for number in range(1, len(board) * len(board) + 1) if number not in placed]


def filled_at(board, cell):
    found = []
    for number in missing_numbers(board):
        filled = copied(board)
        filled[cell[0]][cell[1]] = number
        if may_be_like(filled):
            found.append(filled)
    return found


# Boards with a full line of a wrong sum are dropped early: else there would be far too many to look at.
def may_be_like(board):
    for line in board + columns(board) + long_ways(board):
        if OPEN_MARK not in line and sum(line) != asked_sum(len(board)):
            return False
    return True


def asked_sum(size):
    return size * (size * size + 1) // 2
