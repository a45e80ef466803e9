"""Points 1 and 8: boards woven into one another."""

import copy
import inspect

from likesums.boards import is_like
from likesums.errors import BadBoard, NoSize
from likesums.weaving import woven
from tests.helper import FOUR, THREE, Case, changed, counted, is_like_by_hand, like_boards, sample_boards
from tests.helper import spoilt_boards


def pairs(boards):
    return [(outer, inner) for outer in boards for inner in boards]


def fitting(boards):
    return [pair for pair in pairs(boards) if len(pair[0]) * len(pair[1]) <= 12]


def by_the_documents_words(outer, inner):
    n = len(outer)
    m = len(inner)
    board = [[None] * (n * m) for row in range(n * m)]
    for r in range(n):
        for c in range(n):
            for s in range(m):
                for t in range(m):
                    board[r * m + s][c * m + t] = (outer[r][c] - 1) * m * m + inner[s][t]
    return board


class Woven(Case):
    def test_the_arguments(self):
        self.assertEqual(list(inspect.signature(woven).parameters), ["outer", "inner"])
        self.assertEqual(woven(inner=[[1, 2], [3, 4]], outer=[[1]]), [[1, 2], [3, 4]])

    def test_size_one_on_both_sides(self):
        self.assertEqual(woven([[1]], [[1]]), [[1]])

    def test_size_two_on_both_sides(self):
        told = woven([[1, 2], [3, 4]], [[4, 2], [3, 1]])
        self.assertEqual(told, [[4, 2, 8, 6], [3, 1, 7, 5], [12, 10, 16, 14], [11, 9, 15, 13]])

    def test_the_outer_board_is_the_first(self):
        told = woven([[1, 2], [3, 4]], THREE)
        self.assertEqual(told[0], [2, 7, 6, 11, 16, 15])
        self.assertEqual(told[5], [22, 21, 26, 31, 30, 35])
        told = woven(THREE, [[1, 2], [3, 4]])
        self.assertEqual(told[0], [5, 6, 25, 26, 21, 22])
        self.assertEqual(told[5], [15, 16, 11, 12, 31, 32])

    def test_all_pairs_cell_by_cell(self):
        found = fitting(sample_boards())
        sizes = {(len(outer), len(inner)) for outer, inner in found}
        self.assertEqual(sizes, {(n, m) for n in range(1, 13) for m in range(1, 13) if n * m <= 12})
        for outer, inner in found:
            told = woven(outer, inner)
            self.assert_board(told, len(outer) * len(inner))
            self.assertEqual(told, by_the_documents_words(outer, inner))

    def test_a_board_with_itself(self):
        for board in ([[1]], [[3, 1], [2, 4]], copy.deepcopy(THREE)):
            before = copy.deepcopy(board)
            self.assertEqual(woven(board, board), by_the_documents_words(before, before))
            self.assertEqual(board, before)

    def test_two_like_boards_woven_are_like(self):
        found = fitting(like_boards())
        sizes = {(len(outer), len(inner)) for outer, inner in found}
        self.assertLessEqual({(3, 3), (3, 4), (4, 3), (1, 12), (12, 1)}, sizes)
        for outer, inner in found:
            told = woven(outer, inner)
            self.assertTrue(is_like_by_hand(told))
            self.assertIs(is_like(told), True)

    def test_other_boards_woven_are_not_like(self):
        for outer, inner in ((THREE, counted(4)), (counted(4), THREE), (FOUR, counted(2)), (counted(3), counted(3))):
            self.assertIs(is_like(woven(outer, inner)), False)

    def test_sizes_too_great_together_are_refused(self):
        for n in range(1, 13):
            for m in range(1, 13):
                if n * m > 12:
                    with self.subTest(outer=n, inner=m):
                        self.assert_refused(NoSize, woven, counted(n), counted(m))

    def test_like_boards_too_great_together_are_refused(self):
        for outer, inner in pairs(like_boards()):
            if len(outer) * len(inner) > 12:
                self.assert_refused(NoSize, woven, outer, inner)

    def test_a_spoilt_outer_board_is_refused(self):
        for size in range(1, 13):
            self.assert_all_spoilt_refused(woven, counted(size))

    def test_a_spoilt_inner_board_is_refused(self):
        for words, board in spoilt_boards():
            for size in range(1, 13):
                with self.subTest(inner=words, outer=size):
                    self.assert_refused(BadBoard, woven, counted(size), board)

    def test_both_spoilt_are_refused(self):
        for words, outer in spoilt_boards():
            for other_words, inner in spoilt_boards():
                with self.subTest(outer=words, inner=other_words):
                    self.assert_refused(BadBoard, woven, outer, inner)

    def test_bad_board_comes_before_no_size(self):
        spoilt = changed(FOUR, 3, 3, 2)
        self.assert_refused(BadBoard, woven, spoilt, FOUR)
        self.assert_refused(BadBoard, woven, FOUR, spoilt)
        self.assert_refused(BadBoard, woven, spoilt, spoilt)
        self.assert_refused(BadBoard, woven, counted(13), [[1]])
        self.assert_refused(BadBoard, woven, [[1]], counted(13))

    def test_the_asker_owns_what_is_told(self):
        for outer, inner in fitting(sample_boards()):
            self.assert_asker_owns(woven, copy.deepcopy(outer), copy.deepcopy(inner))
