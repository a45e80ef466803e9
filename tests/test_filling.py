"""Points 1 and 9: the fillings of open boards."""

import copy
import functools
import inspect
import itertools

from likesums.errors import BadBoard, TooOpen
from likesums.filling import fillings, how_many
from tests.helper import FOUR, THREE, Case, changed, counted, fourfold_like, is_like_by_hand, lists_in, odd_like
from tests.helper import opened, spoil

ALL_OF_THREE = [
    [[2, 7, 6], [9, 5, 1], [4, 3, 8]],
    [[2, 9, 4], [7, 5, 3], [6, 1, 8]],
    [[4, 3, 8], [9, 5, 1], [2, 7, 6]],
    [[4, 9, 2], [3, 5, 7], [8, 1, 6]],
    [[6, 1, 8], [7, 5, 3], [2, 9, 4]],
    [[6, 7, 2], [1, 5, 9], [8, 3, 4]],
    [[8, 1, 6], [3, 5, 7], [4, 9, 2]],
    [[8, 3, 4], [1, 5, 9], [6, 7, 2]],
]
EVEN_FOUR = [[1, 8, 13, 12], [14, 11, 2, 7], [4, 5, 16, 9], [15, 10, 3, 6]]
# Pairs of like boards of size 4 that differ at four or six cells.
TWINS = [
    (
        [[1, 2, 15, 16], [12, 14, 3, 5], [13, 7, 10, 4], [8, 11, 6, 9]],
        [[1, 11, 6, 16], [12, 14, 3, 5], [13, 7, 10, 4], [8, 2, 15, 9]],
    ),
    (
        [[1, 2, 15, 16], [12, 14, 3, 5], [13, 7, 10, 4], [8, 11, 6, 9]],
        [[1, 2, 15, 16], [13, 14, 3, 4], [12, 7, 10, 5], [8, 11, 6, 9]],
    ),
    (
        [[1, 15, 10, 8], [3, 13, 6, 12], [14, 4, 11, 5], [16, 2, 7, 9]],
        [[8, 1, 10, 15], [3, 13, 6, 12], [14, 4, 11, 5], [9, 16, 7, 2]],
    ),
    (
        [[1, 3, 14, 16], [15, 13, 4, 2], [10, 6, 11, 7], [8, 12, 5, 9]],
        [[8, 3, 14, 9], [1, 13, 4, 16], [10, 6, 11, 7], [15, 12, 5, 2]],
    ),
    (
        [[1, 3, 14, 16], [12, 13, 4, 5], [15, 8, 9, 2], [6, 10, 7, 11]],
        [[1, 13, 4, 16], [12, 8, 9, 5], [15, 3, 14, 2], [6, 10, 7, 11]],
    ),
    (
        [[1, 7, 16, 10], [14, 12, 3, 5], [11, 13, 6, 4], [8, 2, 9, 15]],
        [[1, 7, 16, 10], [14, 13, 4, 3], [11, 12, 5, 6], [8, 2, 9, 15]],
    ),
    (
        [[1, 6, 12, 15], [16, 9, 7, 2], [13, 8, 10, 3], [4, 11, 5, 14]],
        [[1, 6, 12, 15], [16, 11, 5, 2], [13, 10, 8, 3], [4, 7, 9, 14]],
    ),
]


def all_open(size):
    return [[0] * size for row in range(size)]


def cells_of(size):
    return [(r, c) for r in range(size) for c in range(size)]


def boards_from(rows_of_cells, size):
    return [list(rows_of_cells[r * size : (r + 1) * size]) for r in range(size)]


@functools.cache
def like_boards_of(size):
    """All like boards of size 1, 2 or 3, by trying every board there is."""
    tried = (boards_from(cells, size) for cells in itertools.permutations(range(1, size * size + 1)))
    return [board for board in tried if is_like_by_hand(board)]


def fits(full, board):
    return all(number in (0, full[r][c]) for r, row in enumerate(board) for c, number in enumerate(row))


def searched(board):
    """The fillings, by a search that has nothing of the program."""
    size = len(board)
    if size < 4:
        return sorted(full for full in like_boards_of(size) if fits(full, board))
    places = [(r, c) for r, c in cells_of(size) if board[r][c] == 0]
    placed = {number for row in board for number in row}
    missing = [number for number in range(1, size * size + 1) if number not in placed]
    found = []
    for numbers in itertools.permutations(missing):
        full = copy.deepcopy(board)
        for (r, c), number in zip(places, numbers, strict=True):
            full[r][c] = number
        if is_like_by_hand(full):
            found.append(full)
    return sorted(found)


def spoilt_open_boards():
    """Lists of lists that are no open boards, none of size 4 with more than six noughts."""
    off_by_far = (10**40, -(10**40), 10**5000, -(10**5000))
    spoilt = [
        ("no rows", []),
        ("one row, empty", [[]]),
        ("empty rows", [[], [], []]),
        ("four empty rows", [[], [], [], []]),
        ("five rows, open", all_open(5)),
        ("five rows, full and like", odd_like(5)),
        ("five rows, one cell open", changed(odd_like(5), 2, 2, 0)),
        ("five rows of four", all_open(5)[:4] + [[1, 2, 3, 4]]),
        ("six rows", all_open(6)),
        ("twelve rows", fourfold_like(12)),
        ("thirteen rows", all_open(13)),
        ("first row shorter", [[0, 0], [0, 5, 0], [0, 0, 0]]),
        ("last row shorter", [[0, 0, 0], [0, 5, 0], [0, 0]]),
        ("last row empty", [[0, 0, 0], [0, 5, 0], []]),
        ("first row longer", [[0, 0, 0, 0], [0, 5, 0], [0, 0, 0]]),
        ("last row longer", [[0, 0, 0], [0, 5, 0], [0, 0, 0, 0]]),
        ("all rows longer", [[2, 7, 6, 0], [9, 5, 1, 0], [4, 3, 8, 0]]),
        ("all rows shorter", [[0, 0], [0, 0], [0, 0]]),
        ("rows uneven, cells as many", [[0, 0, 0, 0], [0, 0], [0, 0, 0]]),
        ("two cells in one row", [[0, 0]]),
        ("two rows of one cell", [[0], [0]]),
        ("four, last row shorter", FOUR[:3] + [FOUR[3][:3]]),
        ("four, last row longer", FOUR[:3] + [FOUR[3] + [0]]),
        ("four, a row less", FOUR[:3]),
        ("four, a row more", FOUR + [[0, 0, 0, 0]]),
        ("a number twice, full", changed(THREE, 0, 0, 8)),
        ("a number twice, in one row", [[5, 5, 0], [0, 0, 0], [0, 0, 0]]),
        ("a number twice, in one column", [[1, 0, 0], [0, 0, 0], [1, 0, 0]]),
        ("a number twice, in corners", [[9, 0, 0], [0, 0, 0], [0, 0, 9]]),
        ("all one number", [[5, 5, 5], [5, 5, 5], [5, 5, 5]]),
        ("two, a number twice", [[1, 0], [0, 1]]),
        ("four, a number twice", changed(changed(FOUR, 3, 3, 16), 1, 1, 0)),
        ("one, below nought", [[-1]]),
        ("one, above", [[2]]),
        ("two, below nought", [[0, 0], [0, -1]]),
        ("two, above", [[5, 0], [0, 0]]),
        ("three, below nought", [[0, 0, 0], [0, -5, 0], [0, 0, 0]]),
        ("three, above", [[0, 0, 0], [0, 0, 0], [0, 0, 10]]),
        ("three, above on the first cell", [[10, 0, 0], [0, 0, 0], [0, 0, 0]]),
        ("four, below nought", changed(FOUR, 0, 0, -16)),
        ("four, above", changed(FOUR, 0, 0, 17)),
        ("four, above with open cells", changed(opened(FOUR, [(1, 1), (2, 2), (3, 0)]), 0, 0, 17)),
        ("below and above that make up", [[11, -2, 6], [9, 5, 1], [4, 3, 8]]),
    ]
    spoilt.extend(("far off", changed(all_open(3), 1, 2, number)) for number in off_by_far)
    spoilt.extend(("far off, four", changed(FOUR, 1, 2, number)) for number in off_by_far)
    return spoilt


class Filling(Case):
    def assert_fillings(self, board, expected):
        before = copy.deepcopy(board)
        told = fillings(board)
        self.assertIs(type(told), list)
        self.assertEqual(told, expected)
        for full in told:
            self.assert_board(full, len(board))
        count = how_many(board)
        self.assertIs(type(count), int)
        self.assertEqual(count, len(expected))
        self.assertEqual(board, before)

    def assert_both_refused(self, kind, board):
        self.assert_refused(kind, fillings, board)
        self.assert_refused(kind, how_many, board)


class OrdinaryBoards(Filling):
    def test_the_argument(self):
        for function in (fillings, how_many):
            self.assertEqual(list(inspect.signature(function).parameters), ["board"])
        self.assertEqual(fillings(board=[[0]]), [[[1]]])
        self.assertEqual(how_many(board=[[0]]), 1)

    def test_size_one(self):
        self.assert_fillings([[0]], [[[1]]])
        self.assert_fillings([[1]], [[[1]]])

    def test_size_two_has_none(self):
        self.assert_fillings([[0, 0], [0, 0]], [])
        for cells in itertools.product(range(5), repeat=4):
            placed = [number for number in cells if number]
            if len(set(placed)) == len(placed):
                self.assert_fillings(boards_from(cells, 2), [])

    def test_size_three_all_open(self):
        self.assert_fillings(all_open(3), ALL_OF_THREE)
        self.assertEqual(sorted(like_boards_of(3)), ALL_OF_THREE)

    def test_size_three_with_some_open(self):
        self.assert_fillings([[2, 0, 0], [0, 0, 0], [0, 0, 0]], ALL_OF_THREE[:2])
        self.assert_fillings([[0, 0, 0], [0, 0, 0], [0, 0, 6]], ALL_OF_THREE[2:4])
        self.assert_fillings([[0, 0, 0], [0, 5, 0], [0, 0, 0]], ALL_OF_THREE)
        self.assert_fillings([[0, 0, 0], [0, 4, 0], [0, 0, 0]], [])
        self.assert_fillings([[0, 7, 0], [0, 0, 0], [4, 0, 0]], [THREE])

    def test_size_three_each_set_of_open_cells(self):
        for board in (THREE, ALL_OF_THREE[5]):
            for count in range(10):
                for cells in itertools.combinations(cells_of(3), count):
                    some = opened(board, cells)
                    self.assert_fillings(some, searched(some))

    def test_size_three_one_number_anywhere(self):
        for r, c in cells_of(3):
            for number in range(1, 10):
                board = changed(all_open(3), r, c, number)
                self.assert_fillings(board, searched(board))

    def test_no_open_cell_like(self):
        for board in [[[1]], FOUR, fourfold_like(4), EVEN_FOUR, TWINS[0][1]] + ALL_OF_THREE:
            self.assertTrue(is_like_by_hand(board))
            self.assert_fillings(board, [board])

    def test_no_open_cell_not_like(self):
        long_ways_off = THREE[1:] + THREE[:1]
        rows_off = changed(changed(FOUR, 1, 0, 9), 2, 0, 5)
        columns_off = changed(changed(FOUR, 0, 1, 2), 0, 2, 3)
        for board in (counted(2), counted(3), counted(4), long_ways_off, rows_off, columns_off):
            self.assertFalse(is_like_by_hand(board))
            self.assert_fillings(board, [])

    def test_numbers_from_which_no_like_board_comes(self):
        self.assert_fillings([[1, 2, 3], [0, 0, 0], [0, 0, 0]], [])
        self.assert_fillings([[1, 0, 0], [0, 0, 0], [0, 0, 0]], [])
        for cells in itertools.combinations(cells_of(4)[4:], 6):
            board = opened(counted(4), cells)
            self.assertEqual(how_many(board), 0)
        self.assert_fillings(opened(counted(4), cells_of(4)[4:10]), [])
        # Each full line has the right sum here, and yet there is no filling.
        board = [[16, 3, 2, 13], [5, 10, 11, 8], [9, 6, 12, 7], [0, 0, 0, 0]]
        self.assertEqual(searched(board), [])
        self.assert_fillings(board, [])


class SizeFour(Filling):
    def test_rows_and_columns_and_long_ways_open(self):
        for k in range(4):
            for board in (FOUR, EVEN_FOUR, TWINS[0][1]):
                for cells in (
                    [(k, c) for c in range(4)],
                    [(r, k) for r in range(4)],
                    [(j, j) for j in range(4)],
                    [(j, 3 - j) for j in range(4)],
                    [(k, k)],
                ):
                    some = opened(board, cells)
                    self.assert_fillings(some, searched(some))

    def test_six_open_cells(self):
        self.check_sets(6, 151)

    def test_fewer_open_cells(self):
        for count, step in ((1, 1), (2, 7), (3, 29), (4, 61), (5, 131)):
            self.check_sets(count, step)

    def check_sets(self, count, step):
        for board in (FOUR, EVEN_FOUR, TWINS[0][1]):
            for cells in itertools.islice(itertools.combinations(cells_of(4), count), 0, None, step):
                some = opened(board, cells)
                expected = searched(some)
                self.assertIn(board, expected)
                self.assert_fillings(some, expected)

    def test_twins_come_both_and_sorted(self):
        for first, second in TWINS:
            cells = [(r, c) for r, c in cells_of(4) if first[r][c] != second[r][c]]
            self.assertIn(len(cells), (4, 6))
            for board in (first, second):
                some = opened(board, cells)
                self.assertEqual(searched(some), [first, second])
                self.assert_fillings(some, [first, second])

    def test_twins_with_other_cells_open_too(self):
        first, second = TWINS[0]
        apart = [(0, 1), (0, 2), (3, 1), (3, 2)]
        for cells in itertools.combinations(cells_of(4), 2):
            self.assert_fillings(opened(first, apart + list(cells)), [first, second])

    def test_six_open_cells_of_boards_that_are_not_like(self):
        for board in (changed(changed(FOUR, 0, 0, 3), 0, 1, 16), counted(4)):
            for cells in itertools.islice(itertools.combinations(cells_of(4), 6), 0, None, 401):
                some = opened(board, cells)
                self.assert_fillings(some, searched(some))


class Refusals(Filling):
    def test_what_is_no_open_board_is_refused(self):
        for words, board in spoilt_open_boards():
            with self.subTest(board=words):
                self.assert_both_refused(BadBoard, board)

    def test_each_number_twice_and_each_number_off(self):
        for size in (1, 2, 3):
            for r, c in cells_of(size):
                for number in (-1, -size * size, size * size + 1, size * size + 2):
                    self.assert_both_refused(BadBoard, changed(all_open(size), r, c, number))
        for first, second in itertools.combinations(cells_of(3), 2):
            self.assert_both_refused(BadBoard, changed(changed(all_open(3), *first, 7), *second, 7))

    def test_the_greatest_numbers_are_no_fault(self):
        for size in (1, 2, 3):
            for number in (1, size * size):
                board = changed(all_open(size), 0, 0, number)
                self.assert_fillings(board, searched(board))

    def test_size_four_with_seven_open_cells_or_more(self):
        for count in range(7, 17):
            step = 97 if count < 14 else 1
            for cells in itertools.islice(itertools.combinations(cells_of(4), count), 0, None, step):
                for board in (FOUR, counted(4)):
                    self.assert_both_refused(TooOpen, opened(board, cells))
        self.assert_both_refused(TooOpen, all_open(4))

    def test_smaller_boards_are_never_too_open(self):
        for size in (1, 2, 3):
            cells = cells_of(size)
            for count in range(size * size + 1):
                self.assertIn(how_many(opened(counted(size), cells[:count])), range(9))
        self.assertEqual(how_many(opened(THREE, cells_of(3)[1:])), 2)
        self.assertEqual(how_many(opened(THREE, cells_of(3)[2:])), 1)

    def test_bad_board_comes_before_too_open(self):
        for r, c in cells_of(4):
            for number in (-1, 17, 10**40, -(10**5000)):
                self.assert_both_refused(BadBoard, changed(all_open(4), r, c, number))
        for first, second in itertools.combinations(cells_of(4), 2):
            self.assert_both_refused(BadBoard, changed(changed(all_open(4), *first, 16), *second, 16))
        for r in range(4):
            for row in ([], [0], [0, 0, 0], [0, 0, 0, 0, 0]):
                board = all_open(4)
                board[r] = row
                self.assert_both_refused(BadBoard, board)
        self.assert_both_refused(BadBoard, [[0] * 5 for row in range(4)])
        self.assert_both_refused(BadBoard, all_open(5))


class Ownership(Filling):
    def boards(self):
        return [
            [[0]],
            [[1]],
            all_open(2),
            all_open(3),
            changed(all_open(3), 0, 0, 2),
            copy.deepcopy(THREE),
            counted(3),
            copy.deepcopy(FOUR),
            opened(FOUR, cells_of(4)[5:11]),
            opened(EVEN_FOUR, cells_of(4)[:6]),
        ]

    def test_the_asker_owns_what_is_told(self):
        for function in (fillings, how_many):
            for board in self.boards():
                with self.subTest(function=function.__name__, board=board):
                    self.assert_asker_owns(function, board)

    def test_no_two_fillings_share_a_row(self):
        told = fillings(all_open(3))
        self.assertEqual(len({id(part) for part in lists_in(told)}), 1 + 8 + 24)
        told[0][0][0] = 99
        told[1].append([])
        self.assertEqual(told[2:], ALL_OF_THREE[2:])
        self.assertEqual(fillings(all_open(3)), ALL_OF_THREE)

    def test_rows_handed_in_may_be_one_list(self):
        row = [0, 0, 0]
        told = fillings([row, row, row])
        self.assertEqual(told, ALL_OF_THREE)
        self.assertEqual(row, [0, 0, 0])
        spoil(told)
        self.assertEqual(row, [0, 0, 0])

    def test_a_full_board_is_told_as_a_copy(self):
        for board in ([[1]], copy.deepcopy(THREE), copy.deepcopy(FOUR)):
            before = copy.deepcopy(board)
            spoil(fillings(board))
            self.assertEqual(board, before)

    def test_a_board_changed_later_is_looked_at_anew(self):
        board = all_open(3)
        self.assertEqual(how_many(board), 8)
        board[0][0] = 2
        self.assertEqual(how_many(board), 2)
        board[0][0] = 1
        self.assertEqual(how_many(board), 0)
