"""Points 1, 4, 5 and 6: the moves of boards, and that they keep likeness."""

import copy
import inspect
import itertools

from likesums.boards import is_like
from likesums.errors import BadBoard, BadOrder
from likesums.moves import arranged, counted_down, first_kin, kin, mirrored, turned
from tests.helper import FOUR, SIX, THREE, Case, counted, fourfold_like, like_boards, lists_in, odd_like
from tests.helper import sample_boards, some_fair_orders, spoilt_boards

OF_A_BOARD = (turned, mirrored, counted_down, kin, first_kin)


def fair_orders(size):
    """All fair orders of a size."""
    return [
        list(order)
        for order in itertools.permutations(range(size))
        if all(order[k] + order[size - 1 - k] == size - 1 for k in range(size))
    ]


class OneBoard(Case):
    def test_the_arguments(self):
        for function in OF_A_BOARD:
            self.assertEqual(list(inspect.signature(function).parameters), ["board"])

    def test_what_is_no_board_is_refused(self):
        for function in OF_A_BOARD:
            self.assert_all_spoilt_refused(function)

    def test_the_asker_owns_what_is_told(self):
        for function in OF_A_BOARD:
            for board in sample_boards():
                with self.subTest(function=function.__name__, board=board):
                    self.assert_asker_owns(function, copy.deepcopy(board))

    def test_boards_are_lists_of_lists(self):
        for function in (turned, mirrored, counted_down, first_kin):
            for board in sample_boards():
                told = function(board)
                self.assertIs(type(told), list)
                self.assertEqual([type(row) for row in told], [list] * len(board))

    def test_like_boards_stay_like(self):
        for board in like_boards():
            for function in (turned, mirrored, counted_down, first_kin):
                self.assertIs(is_like(function(board)), True)
            for other in kin(board):
                self.assertIs(is_like(other), True)


class Turned(Case):
    def test_small_boards(self):
        self.assertEqual(turned([[1]]), [[1]])
        self.assertEqual(turned([[1, 2], [3, 4]]), [[3, 1], [4, 2]])
        self.assertEqual(turned(counted(3)), [[7, 4, 1], [8, 5, 2], [9, 6, 3]])

    def test_cell_by_cell(self):
        for board in sample_boards():
            size = len(board)
            told = turned(board)
            for r in range(size):
                for c in range(size):
                    self.assertEqual(told[r][c], board[size - 1 - c][r])

    def test_four_turns_come_back(self):
        for board in sample_boards():
            self.assertEqual(turned(turned(turned(turned(board)))), board)


class Mirrored(Case):
    def test_small_boards(self):
        self.assertEqual(mirrored([[1]]), [[1]])
        self.assertEqual(mirrored([[1, 2], [3, 4]]), [[2, 1], [4, 3]])
        self.assertEqual(mirrored(THREE), [[6, 7, 2], [1, 5, 9], [8, 3, 4]])

    def test_cell_by_cell(self):
        for board in sample_boards():
            size = len(board)
            told = mirrored(board)
            for r in range(size):
                for c in range(size):
                    self.assertEqual(told[r][c], board[r][size - 1 - c])


class CountedDown(Case):
    def test_small_boards(self):
        self.assertEqual(counted_down([[1]]), [[1]])
        self.assertEqual(counted_down([[1, 2], [3, 4]]), [[4, 3], [2, 1]])
        self.assertEqual(counted_down(THREE), [[8, 3, 4], [1, 5, 9], [6, 7, 2]])

    def test_cell_by_cell(self):
        for board in sample_boards():
            size = len(board)
            told = counted_down(board)
            for r in range(size):
                for c in range(size):
                    self.assertEqual(told[r][c], size * size + 1 - board[r][c])


class Kin(Case):
    def test_size_one_has_eight_all_the_same(self):
        told = kin([[1]])
        self.assertIs(type(told), list)
        self.assertEqual(told, [[[1]]] * 8)
        self.assertEqual(len({id(part) for part in lists_in(told)}), 17)

    def test_size_two(self):
        expected = [
            [[1, 2], [3, 4]],
            [[1, 3], [2, 4]],
            [[2, 1], [4, 3]],
            [[2, 4], [1, 3]],
            [[3, 1], [4, 2]],
            [[3, 4], [1, 2]],
            [[4, 2], [3, 1]],
            [[4, 3], [2, 1]],
        ]
        for board in expected:
            self.assertEqual(kin(board), expected)
            self.assertEqual(first_kin(board), [[1, 2], [3, 4]])

    def test_size_three(self):
        expected = [
            [[2, 7, 6], [9, 5, 1], [4, 3, 8]],
            [[2, 9, 4], [7, 5, 3], [6, 1, 8]],
            [[4, 3, 8], [9, 5, 1], [2, 7, 6]],
            [[4, 9, 2], [3, 5, 7], [8, 1, 6]],
            [[6, 1, 8], [7, 5, 3], [2, 9, 4]],
            [[6, 7, 2], [1, 5, 9], [8, 3, 4]],
            [[8, 1, 6], [3, 5, 7], [4, 9, 2]],
            [[8, 3, 4], [1, 5, 9], [6, 7, 2]],
        ]
        for board in expected:
            self.assertEqual(kin(board), expected)
            self.assertEqual(first_kin(board), THREE)

    def test_cell_by_cell(self):
        for board in sample_boards():
            size = len(board)
            places = range(size)
            last = size - 1
            expected = [
                [[board[r][c] for c in places] for r in places],
                [[board[r][last - c] for c in places] for r in places],
                [[board[last - r][c] for c in places] for r in places],
                [[board[last - r][last - c] for c in places] for r in places],
                [[board[c][r] for c in places] for r in places],
                [[board[c][last - r] for c in places] for r in places],
                [[board[last - c][r] for c in places] for r in places],
                [[board[last - c][last - r] for c in places] for r in places],
            ]
            self.assertEqual(kin(board), sorted(expected))
            self.assertEqual(first_kin(board), min(expected))

    def test_kin_have_the_same_kin(self):
        for board in (SIX, fourfold_like(12), counted(10)):
            told = kin(board)
            for other in told:
                self.assertEqual(kin(other), told)

    def test_the_board_itself_is_told_as_a_copy(self):
        for board in sample_boards():
            handed = [id(part) for part in lists_in(board)]
            told = [id(part) for part in lists_in(kin(board))]
            self.assertIn(board, kin(board))
            self.assertEqual(len(told), 9 + 8 * len(board))
            self.assertEqual(len(set(handed + told)), len(handed) + len(told))


class Arranged(Case):
    def test_the_arguments(self):
        self.assertEqual(list(inspect.signature(arranged).parameters), ["board", "order"])
        self.assertEqual(arranged(board=[[1]], order=[0]), [[1]])

    def test_size_two(self):
        self.assertEqual(arranged([[1, 2], [3, 4]], [0, 1]), [[1, 2], [3, 4]])
        self.assertEqual(arranged([[1, 2], [3, 4]], [1, 0]), [[4, 3], [2, 1]])

    def test_size_three(self):
        self.assertEqual(arranged(THREE, [2, 1, 0]), [[8, 3, 4], [1, 5, 9], [6, 7, 2]])

    def test_size_four(self):
        told = arranged(counted(4), [1, 3, 0, 2])
        self.assertEqual(told, [[6, 8, 5, 7], [14, 16, 13, 15], [2, 4, 1, 3], [10, 12, 9, 11]])

    def test_size_five(self):
        told = arranged(counted(5), [3, 4, 2, 0, 1])
        self.assertEqual(told[0], [19, 20, 18, 16, 17])
        self.assertEqual(told[2], [14, 15, 13, 11, 12])
        self.assertEqual([row[3] for row in told], [16, 21, 11, 1, 6])

    def test_all_fair_orders_cell_by_cell(self):
        self.assertEqual([len(fair_orders(size)) for size in range(1, 7)], [1, 2, 2, 8, 8, 48])
        for board in (counted(1), counted(2), THREE, FOUR, odd_like(5), SIX):
            for order in fair_orders(len(board)):
                self.assert_cells(board, order)

    def test_some_fair_orders_of_each_size(self):
        for size in range(1, 13):
            for order in some_fair_orders(size):
                self.assert_cells(counted(size), order)

    def assert_cells(self, board, order):
        told = arranged(board, order)
        self.assertIs(type(told), list)
        self.assertEqual([type(row) for row in told], [list] * len(board))
        for r in range(len(board)):
            for c in range(len(board)):
                self.assertEqual(told[r][c], board[order[r]][order[c]])

    def test_like_boards_stay_like(self):
        for board in like_boards():
            for order in some_fair_orders(len(board)):
                self.assertIs(is_like(arranged(board, order)), True)
        for board in (THREE, FOUR, odd_like(5), SIX):
            for order in fair_orders(len(board)):
                self.assertIs(is_like(arranged(board, order)), True)

    def test_orders_of_another_size_are_refused(self):
        for board in sample_boards():
            size = len(board)
            for other in (0, size - 1, size + 1, 2 * size + 1):
                if other != size:
                    self.assert_refused(BadOrder, arranged, board, list(range(other)))

    def test_what_is_no_order_is_refused(self):
        for order in ([1, 1, 1, 2], [0, 0, 3, 3], [1, 2, 1, 2], [0, 1, 2, 2], [0, 1, 1, 3]):
            self.assert_refused(BadOrder, arranged, FOUR, order)
        for order in ([4, 1, 2, -1], [-1, 1, 2, 4], [1, 2, 3, 4], [-4, -3, -2, -1], [0, 1, 2, -1]):
            self.assert_refused(BadOrder, arranged, FOUR, order)
        for order in ([10**40, 1, 2, 3 - 10**40], [0, 1, 2, 10**40], [0, 1, 2, 10**5000], [0, 1, 2, 7]):
            self.assert_refused(BadOrder, arranged, FOUR, order)
        for order in ([], [1], [-1], [0, 0], [0, 1]):
            self.assert_refused(BadOrder, arranged, [[1]], order)
        for order in ([1, 1, 1], [0, 1, 2, 0], [2, 1, 0, 1, 2], [0, 2], [-1, 1, 3]):
            self.assert_refused(BadOrder, arranged, THREE, order)

    def test_unfair_orders_are_refused(self):
        for size in range(1, 7):
            fair = fair_orders(size)
            for order in itertools.permutations(range(size)):
                if list(order) not in fair:
                    self.assert_refused(BadOrder, arranged, counted(size), list(order))

    def test_unfair_in_the_middle_of_size_twelve(self):
        self.assert_refused(BadOrder, arranged, counted(12), [0, 1, 2, 3, 5, 4, 6, 7, 8, 9, 10, 11])
        self.assert_refused(BadOrder, arranged, counted(12), [0, 1, 2, 3, 6, 4, 5, 7, 8, 9, 10, 11])
        self.assert_refused(BadOrder, arranged, counted(11), [0, 1, 2, 3, 5, 4, 6, 7, 8, 9, 10])

    def test_the_board_is_looked_at_first(self):
        for order in ([], [0], [0, 1, 2], [2, 1, 0], [1, 0, 2], [0, 0, 0], [9, 9, 9], [-1], [0, 1, 2, 3]):
            for words, board in spoilt_boards():
                with self.subTest(board=words, order=order):
                    self.assert_refused(BadBoard, arranged, board, order)

    def test_a_spoilt_board_with_a_fair_order_of_its_rows(self):
        for words, board in spoilt_boards():
            with self.subTest(board=words):
                self.assert_refused(BadBoard, arranged, board, list(range(len(board))))

    def test_the_asker_owns_what_is_told(self):
        for board in sample_boards():
            for order in some_fair_orders(len(board)):
                self.assert_asker_owns(arranged, copy.deepcopy(board), order)
