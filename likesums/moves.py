"""Moves: boards turned, mirrored, counted down and arranged, and the kin of a board."""

from likesums.boards import check_board, columns
from likesums.errors import BadOrder


def turned(board):
    check_board(board)
    return [list(reversed(line)) for line in columns(board)]


def mirrored(board):
    check_board(board)
    return [list(reversed(row)) for row in board]


def counted_down(board):
    check_board(board)
    whole = len(board) * len(board) + 1
    return [taken_from(whole, row) for row in board]


def taken_from(whole, row):
    return [whole - number for number in row]


# Turning comes first, so that the board itself, four turns on, is told as a copy.
def kin(board):
    found = []
    current = board
    for turn in range(4):
        current = turned(current)
        found.append(current)
        found.append(mirrored(current))
    return sorted(found)


def first_kin(board):
    return kin(board)[0]


def arranged(board, order):
    check_board(board)
    check_fair_order(order, len(board))
    return [picked(board[place], order) for place in order]


def check_fair_order(order, size):
    if sorted(order) != list(range(size)):
        raise BadOrder("an order has each number from 0 to the size less one once")
    last = size - 1
    for k in range(size):
        if order[k] + order[last - k] != last:
            raise BadOrder("a fair order has numbers at opposite places that come to the size less one")


def picked(row, order):
    return [row[place] for place in order]
