"""Point 6, and what follows of the points together, over the whole program."""

import copy
import itertools

from likesums.boards import is_like
from likesums.filling import fillings, how_many
from likesums.laying import laid
from likesums.moves import arranged, counted_down, first_kin, kin, mirrored, turned
from likesums.weaving import woven
from tests.helper import FOUR, Case, counted, is_like_by_hand, opened, sample_boards, some_fair_orders

SIZES = (1, 3, 4, 5, 6, 7, 8, 9, 10, 11, 12)


def turned_about(board):
    return arranged(board, some_fair_orders(len(board))[1])


def mixed(board):
    return arranged(board, some_fair_orders(len(board))[2])


MOVES = (turned, mirrored, counted_down, first_kin, turned_about, mixed)


def laid_boards():
    return [laid(size) for size in SIZES]


def woven_boards():
    boards = laid_boards()
    return [woven(a, b) for a in boards for b in boards if len(a) * len(b) <= 12]


def filled_boards():
    six = [(0, 0), (0, 1), (1, 0), (1, 1), (2, 2), (3, 3)]
    boards = fillings([[0]]) + fillings([[0, 0, 0]] * 3)
    return boards + fillings(opened(FOUR, six)) + fillings(opened(laid(4), six))


def every_like_board():
    return laid_boards() + woven_boards() + filled_boards()


def pairs_to_weave():
    boards = sample_boards() + laid_boards()
    return [(a, b) for a in boards for b in boards if len(a) * len(b) <= 12]


def contrary(order):
    return [order.index(place) for place in range(len(order))]


class RowsOfMoves(Case):
    def test_the_boards_are_like_and_of_each_kind(self):
        self.assertEqual({len(board) for board in laid_boards()}, set(SIZES))
        self.assertEqual({len(board) for board in woven_boards()}, set(SIZES))
        self.assertEqual({len(board) for board in filled_boards()}, {1, 3, 4})
        for board in every_like_board():
            self.assertTrue(is_like_by_hand(board))
            self.assertIs(is_like(board), True)

    def test_one_move(self):
        for board in every_like_board():
            for move in MOVES:
                self.assertTrue(is_like_by_hand(move(board)))
            for other in kin(board):
                self.assertTrue(is_like_by_hand(other))
            for order in some_fair_orders(len(board)):
                self.assertTrue(is_like_by_hand(arranged(board, order)))

    def test_three_moves(self):
        for board in laid_boards() + woven_boards()[-6:] + filled_boards()[-2:]:
            for moves in itertools.product(MOVES, repeat=3):
                self.check_row(board, moves)

    def test_many_moves(self):
        for board in every_like_board():
            self.check_row(board, MOVES * 4)

    def check_row(self, board, moves):
        before = copy.deepcopy(board)
        current = board
        for move in moves:
            current = move(current)
            self.assertIs(is_like(current), True)
        self.assertTrue(is_like_by_hand(current))
        self.assertEqual(board, before)

    def test_moved_boards_woven_are_like(self):
        for outer, inner in ((laid(3), laid(4)), (laid(4), laid(3)), (laid(3), laid(3)), (laid(1), laid(10))):
            for first, second in itertools.product(MOVES, repeat=2):
                self.assertTrue(is_like_by_hand(woven(first(outer), second(inner))))


class ThereAndBack(Case):
    def boards(self):
        return every_like_board() + [counted(size) for size in range(1, 13)]

    def test_four_turns(self):
        for board in self.boards():
            self.assertEqual(turned(turned(turned(turned(board)))), board)

    def test_two_mirrorings(self):
        for board in self.boards():
            self.assertEqual(mirrored(mirrored(board)), board)

    def test_two_countings_down(self):
        for board in self.boards():
            self.assertEqual(counted_down(counted_down(board)), board)

    def test_an_order_and_its_contrary(self):
        for board in self.boards():
            for order in some_fair_orders(len(board)):
                self.assertEqual(arranged(arranged(board, order), contrary(order)), board)
                self.assertEqual(arranged(arranged(board, contrary(order)), order), board)

    def test_some_order_is_not_its_own_contrary(self):
        self.assertTrue(any(contrary(order) != order for n in SIZES for order in some_fair_orders(n)))

    def test_two_turns_are_the_order_the_other_way_about(self):
        for board in self.boards():
            self.assertEqual(turned(turned(board)), turned_about(board))


class WovenAndMoved(Case):
    def check(self, move):
        for outer, inner in pairs_to_weave():
            self.assertEqual(move(woven(outer, inner)), woven(move(outer), move(inner)))

    def test_turned(self):
        self.check(turned)

    def test_mirrored(self):
        self.check(mirrored)

    def test_counted_down(self):
        self.check(counted_down)

    def test_with_the_board_of_size_one(self):
        for board in sample_boards() + every_like_board():
            before = copy.deepcopy(board)
            for told in (woven([[1]], board), woven(board, [[1]])):
                self.assertEqual(told, before)
                told[0][0] = -1
                self.assertEqual(board, before)

    def test_three_boards_woven_either_way(self):
        for a, b, c in itertools.permutations([counted(2), [[4, 1], [2, 3]], counted(3)]):
            self.assertEqual(woven(woven(a, b), c), woven(a, woven(b, c)))


class FilledAndMoved(Case):
    def test_all_of_size_three_are_kin(self):
        told = fillings([[0, 0, 0], [0, 0, 0], [0, 0, 0]])
        self.assertEqual(len(told), 8)
        for board in told:
            self.assertEqual(kin(board), told)
            self.assertEqual(first_kin(board), told[0])
        self.assertEqual(kin(laid(3)), told)

    def test_a_like_board_is_its_only_filling(self):
        for size in (1, 3, 4):
            for board in kin(laid(size)):
                self.assertEqual(fillings(board), [board])
                self.assertEqual(how_many(board), 1)

    def test_a_laid_board_is_found_again(self):
        cells = [(r, c) for r in range(4) for c in range(4)]
        for chosen in itertools.islice(itertools.combinations(cells, 6), 0, None, 53):
            for board in (laid(4), mixed(laid(4))):
                self.assertIn(board, fillings(opened(board, chosen)))

    def test_counting_down_goes_through_filling(self):
        cells = [(r, c) for r in range(4) for c in range(4)]
        for chosen in itertools.islice(itertools.combinations(cells, 6), 0, None, 53):
            direct = fillings(opened(counted_down(laid(4)), chosen))
            through = [counted_down(board) for board in fillings(opened(laid(4), chosen))]
            self.assertEqual(direct, sorted(through))
