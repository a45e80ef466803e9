"""Points 1, 2 and 3: what is a board, the sums of its lines, and likeness."""

import copy
import inspect

from likesums.boards import is_like, sums
from tests.helper import FOUR, SIX, THREE, Case, counted, fourfold_like, like_boards, odd_like, sample_boards


def swapped(board, first, second):
    """The board with the numbers of two cells changed over."""
    other = copy.deepcopy(board)
    other[first[0]][first[1]] = board[second[0]][second[1]]
    other[second[0]][second[1]] = board[first[0]][first[1]]
    return other


def by_places(board, places):
    """Rows and columns in the order of the places, whether that is fair or not."""
    return [[board[r][c] for c in places] for r in places]


def lines_that_differ(board):
    """Which groups of lines hold a sum that isn't that of most lines, reckoned cell by cell."""
    size = len(board)
    asked = size * (size * size + 1) // 2
    numbers = range(size)
    groups = {
        "rows": [sum(board[r][c] for c in numbers) for r in numbers],
        "columns": [sum(board[r][c] for r in numbers) for c in numbers],
        "first long way": [sum(board[k][k] for k in numbers)],
        "second long way": [sum(board[k][size - 1 - k] for k in numbers)],
    }
    return [name for name, found in groups.items() if set(found) != {asked}]


class Sums(Case):
    def test_the_argument(self):
        self.assertEqual(list(inspect.signature(sums).parameters), ["board"])
        self.assertEqual(sums(board=[[1]]), ([1], [1], [1, 1]))

    def test_size_one_has_two_long_ways(self):
        self.assertEqual(sums([[1]]), ([1], [1], [1, 1]))

    def test_size_two(self):
        self.assertEqual(sums([[1, 2], [3, 4]]), ([3, 7], [4, 6], [5, 5]))
        self.assertEqual(sums([[1, 2], [4, 3]]), ([3, 7], [5, 5], [4, 6]))
        self.assertEqual(sums([[4, 2], [1, 3]]), ([6, 4], [5, 5], [7, 3]))

    def test_size_three(self):
        self.assertEqual(sums([[1, 2, 3], [4, 5, 6], [7, 9, 8]]), ([6, 15, 24], [12, 16, 17], [14, 15]))
        self.assertEqual(sums(THREE), ([15] * 3, [15] * 3, [15] * 2))

    def test_size_four(self):
        board = [[1, 2, 3, 4], [8, 7, 6, 5], [9, 10, 12, 11], [16, 13, 14, 15]]
        self.assertEqual(sums(board), ([10, 26, 42, 58], [34, 32, 35, 35], [35, 36]))

    def test_size_twelve(self):
        self.assertEqual(sums(fourfold_like(12)), ([870] * 12, [870] * 12, [870] * 2))
        told = sums(counted(12))
        self.assertEqual(told[0], [78 + 144 * r for r in range(12)])
        self.assertEqual(told[1], [804 + 12 * c for c in range(12)])
        self.assertEqual(told[2], [870, 870])

    def test_the_kinds(self):
        for board in sample_boards():
            told = sums(board)
            self.assertIs(type(told), tuple)
            self.assertEqual([type(part) for part in told], [list, list, list])
            self.assertEqual([len(part) for part in told], [len(board), len(board), 2])

    def test_what_is_no_board_is_refused(self):
        self.assert_all_spoilt_refused(sums)

    def test_the_asker_owns_what_is_told(self):
        for board in sample_boards():
            self.assert_asker_owns(sums, board)


class IsLike(Case):
    def test_the_argument(self):
        self.assertEqual(list(inspect.signature(is_like).parameters), ["board"])
        self.assertIs(is_like(board=[[1]]), True)

    def test_like_boards(self):
        self.assertEqual({len(board) for board in like_boards()}, {1, 3, 4, 5, 6, 7, 8, 9, 11, 12})
        for board in like_boards():
            with self.subTest(board=board):
                self.assertEqual(lines_that_differ(board), [])
                self.assertIs(is_like(board), True)

    def test_counted_boards_are_not_like(self):
        for size in range(2, 13):
            with self.subTest(size=size):
                self.assertIs(is_like(counted(size)), False)

    def test_no_board_of_size_two_is_like(self):
        for board in ([[1, 2], [3, 4]], [[1, 2], [4, 3]], [[1, 3], [4, 2]], [[4, 1], [2, 3]]):
            self.assertIs(is_like(board), False)

    def assert_differs_in(self, board, names):
        self.assertEqual(lines_that_differ(board), names)
        self.assertIs(is_like(board), False)

    def test_rows_alone_differ(self):
        self.assert_differs_in(swapped(FOUR, (1, 0), (2, 0)), ["rows"])
        self.assert_differs_in(swapped(SIX, (1, 0), (4, 0)), ["rows"])

    def test_columns_alone_differ(self):
        self.assert_differs_in(swapped(FOUR, (0, 1), (0, 2)), ["columns"])
        self.assert_differs_in(swapped(SIX, (5, 3), (5, 1)), ["columns"])

    def test_one_long_way_alone_differs(self):
        board = by_places(odd_like(5), [0, 1, 3, 2, 4])
        self.assert_differs_in(board, ["second long way"])
        self.assert_differs_in([row[::-1] for row in board], ["first long way"])

    def test_both_long_ways_alone_differ(self):
        self.assert_differs_in(THREE[1:] + THREE[:1], ["first long way", "second long way"])

    def test_the_last_cells_of_size_twelve(self):
        self.assertIs(is_like(swapped(fourfold_like(12), (11, 10), (11, 11))), False)
        self.assertIs(is_like(swapped(fourfold_like(12), (10, 11), (11, 11))), False)

    def test_what_is_no_board_is_refused(self):
        self.assert_all_spoilt_refused(is_like)

    def test_nothing_handed_in_is_changed_or_kept(self):
        for board in sample_boards():
            self.assert_asker_owns(is_like, board)

    def test_a_board_changed_later_is_looked_at_anew(self):
        board = copy.deepcopy(FOUR)
        self.assertIs(is_like(board), True)
        board[0][1], board[0][2] = board[0][2], board[0][1]
        self.assertIs(is_like(board), False)
