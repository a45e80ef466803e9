"""Points 1 and 7: like boards laid, of each size that has one."""

import inspect

from likesums.boards import is_like
from likesums.errors import NoSize
from likesums.laying import laid
from tests.helper import Case, is_like_by_hand, spoil

SIZES = (1, 3, 4, 5, 6, 7, 8, 9, 10, 11, 12)


class Laid(Case):
    def test_the_argument(self):
        self.assertEqual(list(inspect.signature(laid).parameters), ["size"])
        self.assertEqual(laid(size=1), [[1]])

    def test_each_size_cell_by_cell(self):
        for size in SIZES:
            with self.subTest(size=size):
                board = laid(size)
                self.assert_board(board, size)
                numbers = [number for row in board for number in row]
                self.assertEqual(sorted(numbers), list(range(1, size * size + 1)))
                asked = size * (size * size + 1) // 2
                for k in range(size):
                    self.assertEqual(sum(board[k]), asked)
                    self.assertEqual(sum(board[r][k] for r in range(size)), asked)
                self.assertEqual(sum(board[k][k] for k in range(size)), asked)
                self.assertEqual(sum(board[k][size - 1 - k] for k in range(size)), asked)

    def test_the_program_calls_them_like(self):
        for size in SIZES:
            self.assertIs(is_like(laid(size)), True)

    def test_sizes_without_a_like_board_are_refused(self):
        for size in (2, 0, -1, -2, -3, -4, -11, -12, -13):
            with self.subTest(size=size):
                self.assert_refused(NoSize, laid, size)

    def test_sizes_above_twelve_are_refused(self):
        for size in range(13, 60):
            with self.subTest(size=size):
                self.assert_refused(NoSize, laid, size)

    def test_sizes_far_off_are_refused(self):
        for exponent in (3, 9, 18, 19, 40, 5000):
            for size in (10**exponent, 10**exponent + 1, 10**exponent + 2):
                self.assert_refused(NoSize, laid, size)
                self.assert_refused(NoSize, laid, -size)

    def test_the_asker_owns_what_is_told(self):
        for size in SIZES:
            with self.subTest(size=size):
                self.assert_asker_owns(laid, size)

    def test_a_board_laid_and_changed_does_not_change_the_next_ones(self):
        for size in SIZES:
            for other in SIZES:
                spoil(laid(size))
                self.assertTrue(is_like_by_hand(laid(other)), (size, other))
