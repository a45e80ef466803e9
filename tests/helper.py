"""Boards and checks that several test files need."""

import copy
import unittest

from likesums.errors import BadBoard, BadOrder, NoSize, SumError, TooOpen

REFUSALS = (BadBoard, BadOrder, NoSize, TooOpen)

THREE = [[2, 7, 6], [9, 5, 1], [4, 3, 8]]
FOUR = [[16, 3, 2, 13], [5, 10, 11, 8], [9, 6, 7, 12], [4, 15, 14, 1]]
SIX = [
    [35, 1, 6, 26, 19, 24],
    [3, 32, 7, 21, 23, 25],
    [31, 9, 2, 22, 27, 20],
    [8, 28, 33, 17, 10, 15],
    [30, 5, 34, 12, 14, 16],
    [4, 36, 29, 13, 18, 11],
]


def counted(size):
    """The numbers in their order, row by row: like for size 1 alone."""
    return [[r * size + c + 1 for c in range(size)] for r in range(size)]


def odd_like(size):
    half = size // 2
    return [
        [size * ((r + c + 1 + half) % size) + (r + 2 * c + 1) % size + 1 for c in range(size)]
        for r in range(size)
    ]


def fourfold_like(size):
    board = counted(size)
    for r in range(size):
        for c in range(size):
            if (r % 4 in (0, 3)) == (c % 4 in (0, 3)):
                board[r][c] = size * size + 1 - board[r][c]
    return board


def like_boards():
    """A like board of each size from 1 to 12 that is easily laid."""
    boards = [copy.deepcopy(board) for board in (THREE, FOUR, SIX)]
    boards.extend(odd_like(size) for size in (1, 3, 5, 7, 9, 11))
    boards.extend(fourfold_like(size) for size in (4, 8, 12))
    return boards


def sample_boards():
    """Boards of each size from 1 to 12, like ones and others."""
    return like_boards() + [counted(size) for size in range(1, 13)]


def is_like_by_hand(board):
    """Points 2 and 3 reckoned cell by cell, by nothing of the program."""
    size = len(board)
    places = range(size)
    if sorted(number for row in board for number in row) != list(range(1, size * size + 1)):
        return False
    found = [sum(board[r][c] for c in places) for r in places]
    found.extend(sum(board[r][c] for r in places) for c in places)
    found.append(sum(board[k][k] for k in places))
    found.append(sum(board[k][size - 1 - k] for k in places))
    return len(set(found)) == 1 and all(len(row) == size for row in board)


def some_fair_orders(size):
    """Three fair orders of any size: as it is, the other way about, and one that is neither."""
    plain = list(range(size))
    mixed = list(range(size))
    for k in range(size // 2):
        source = (k + 1) % (size // 2)
        mixed[k] = source if k % 2 else size - 1 - source
        mixed[size - 1 - k] = size - 1 - mixed[k]
    return [plain, plain[::-1], mixed]


def opened(board, cells):
    """The board with nought at the cells."""
    other = copy.deepcopy(board)
    for r, c in cells:
        other[r][c] = 0
    return other


def changed(board, r, c, number):
    spoilt = copy.deepcopy(board)
    spoilt[r][c] = number
    return spoilt


def spoilt_boards():
    """Lists of lists that are no boards, each with a few words on what is wrong."""
    return [
        ("no rows", []),
        ("one row, empty", [[]]),
        ("empty rows", [[], [], []]),
        ("size 13", counted(13)),
        ("size 13, like", odd_like(13)),
        ("size 16, like", fourfold_like(16)),
        ("first row shorter", [THREE[0][:2]] + THREE[1:]),
        ("last row shorter", THREE[:2] + [THREE[2][:2]]),
        ("last row empty", THREE[:2] + [[]]),
        ("first row longer", [THREE[0] + [10]] + THREE[1:]),
        ("last row longer", THREE[:2] + [THREE[2] + [10]]),
        ("all rows longer", [THREE[0] + [10], THREE[1] + [11], THREE[2] + [12]]),
        ("all rows shorter", [[1, 2], [3, 4], [5, 6]]),
        ("all numbers, rows uneven", [[2, 7, 6, 9], [5, 1], [4, 3, 8]]),
        ("all numbers, first row fits", [[2, 7, 6], [9, 5, 1, 4], [3, 8]]),
        ("a row more", THREE + [[10, 11, 12]]),
        ("a row less", THREE[:2]),
        ("a row twice", [THREE[0], THREE[1], THREE[0]]),
        ("a number twice", changed(THREE, 0, 0, 8)),
        ("a number twice, side by side", changed(THREE, 0, 0, 7)),
        ("nought", changed(THREE, 0, 0, 0)),
        ("nought on one cell", [[0]]),
        ("two on one cell", [[2]]),
        ("counted from nought", [[1, 6, 5], [8, 4, 0], [3, 2, 7]]),
        ("counted from two", [[3, 8, 7], [10, 6, 2], [5, 4, 9]]),
        ("below nought", changed(THREE, 2, 2, -8)),
        ("all below nought", [[-number for number in row] for row in THREE]),
        ("above n times n", changed(THREE, 1, 0, 10)),
        ("far above", changed(THREE, 1, 0, 10**40)),
        ("far below", changed(THREE, 1, 0, -(10**40))),
        ("too long to be written out", changed(THREE, 1, 0, 10**5000)),
        ("sums fit, one number", [[5, 5, 5], [5, 5, 5], [5, 5, 5]]),
        ("sums fit, numbers twice", [[4, 6, 5], [6, 5, 4], [5, 4, 6]]),
        ("sums fit, numbers doubled", [[2 * number for number in row] for row in THREE]),
        ("sum of all fits", [[1, 1], [4, 4]]),
        ("size 12, last number off", changed(fourfold_like(12), 11, 11, 145)),
        ("size 12, last row shorter", counted(12)[:11] + [counted(12)[11][:11]]),
    ]


def lists_in(value):
    """Every list in a value of lists and tuples, itself among them."""
    found = [value] if isinstance(value, list) else []
    if isinstance(value, (list, tuple)):
        for part in value:
            found.extend(lists_in(part))
    return found


def spoil(value):
    """Change every list in a value, the innermost first."""
    for part in reversed(lists_in(value)):
        part.append(-1)
        part[0] = -2


class Case(unittest.TestCase):
    def assert_refused(self, kind, function, *handed):
        before = copy.deepcopy(handed)
        with self.assertRaises(SumError) as caught:
            function(*handed)
        error = caught.exception
        self.assertIsInstance(error, ValueError)
        self.assertEqual([other for other in REFUSALS if isinstance(error, other)], [kind])
        self.assertEqual(handed, before)

    def assert_board(self, value, size):
        """The kinds: a list of lists of whole numbers, with as many rows and columns as told."""
        self.assertIs(type(value), list)
        self.assertEqual([type(row) for row in value], [list] * size)
        self.assertEqual([len(row) for row in value], [size] * size)
        self.assertEqual({type(number) for row in value for number in row}, {int})

    def assert_all_spoilt_refused(self, function, *rest):
        for words, board in spoilt_boards():
            with self.subTest(function=function.__name__, board=words):
                self.assert_refused(BadBoard, function, board, *rest)

    def assert_asker_owns(self, function, *handed):
        """Point 1, for one call."""
        before = copy.deepcopy(handed)
        lists_before = [id(part) for part in lists_in(handed)]
        told = function(*handed)
        expected = copy.deepcopy(told)
        self.assertEqual(handed, before)
        self.assertEqual([id(part) for part in lists_in(handed)], lists_before)
        every = [id(part) for part in lists_in(told)] + lists_before
        self.assertEqual(len(set(every)), len(every))
        again = function(*handed)
        spoil(told)
        self.assertEqual(handed, before)
        self.assertEqual(again, expected)
        self.assertEqual(function(*handed), expected)
        spoil(handed)
        self.assertEqual(again, expected)
        self.assertEqual(function(*before), expected)
