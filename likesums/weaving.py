"""Weaving: a board put into every cell of another."""

from likesums.boards import LARGEST_SIZE, check_board
from likesums.errors import NoSize


def woven(outer, inner):
    check_board(outer)
    check_board(inner)
    if len(outer) * len(inner) > LARGEST_SIZE:
        raise NoSize(f"the sizes multiplied are more than {LARGEST_SIZE}")
    board = []
    for outer_row in outer:
        for inner_row in inner:
            board.append(woven_row(outer_row, inner_row))
    return board


def woven_row(outer_row, inner_row):
    inner_cells = len(inner_row) * len(inner_row)
    row = []
    for number in outer_row:
        row.extend(raised(inner_row, (number - 1) * inner_cells))
    return row


def raised(row, rise):
    return [number + rise for number in row]
