import unittest

from seeall.errors import NoLot, NoNumber, TooGreat
from seeall.fewest import least
from seeall.watched import first_watched, how_often, is_watched, least_often, least_watched, sees_often
from tests.plain import (
    DOWNWARD, EMPTY, KING, KNIGHT, NAMED, PIECES, QUEEN, ROOK, all_boards, great_boards, plain_cells,
    plain_first_fewest, plain_is_watched, plain_lots, plain_often, plain_seers, plain_sees_all, small_boards, some_lots,
    some_pieces,
)
from tests.things import (
    NO_BOARDS, NO_LOTS, NO_PIECES, board_and_piece, changed, misordered, no_lots, no_wholes, not_refused, refusal,
    shorter,
)

SMALL = (least_watched, first_watched)
OF_LOTS = (is_watched, how_often)
NO_MANY = [0, 65, -1, True, None, "1", [1], (1,), {}, 1.0]


def some_questions():
    questions = [(board, piece) for board in small_boards() for piece in (KING, QUEEN)]
    questions += [(board, piece) for board in small_boards(8) for piece in PIECES + tuple(some_pieces("watch", 12))]
    questions += [(board, piece) for board in ((3, 4), (6, 2)) for piece in (ROOK, KNIGHT, DOWNWARD, EMPTY)]
    return questions


def questions_with_lots():
    questions = [(board, piece, lot) for board in all_boards() for piece in NAMED for lot in some_lots(board, "w", 2)]
    for board in ((1, 1), (1, 5), (3, 3), (5, 4), (8, 8)):
        for piece in PIECES + tuple(some_pieces("often", 15)):
            questions += [(board, piece, lot) for lot in some_lots(board, "often", 5)]
    return questions


def plain_counts(board, piece, lot):
    often = plain_often(board, piece, lot)
    return [often[cell] for cell in plain_cells(board)]


class IsWatchedTest(unittest.TestCase):
    def test_known_lots(self):
        self.assertIs(is_watched((1, 1), KING, ()), False)
        self.assertIs(is_watched((1, 1), KING, ((0, 0),)), False)
        self.assertIs(is_watched((1, 2), KING, ((0, 0), (0, 1))), True)
        self.assertIs(is_watched((1, 3), KING, ((0, 1),)), False)
        self.assertIs(is_watched((1, 3), KING, ((0, 0), (0, 1))), True)
        self.assertIs(is_watched((1, 3), KING, ((0, 0), (0, 2))), False)
        self.assertIs(is_watched((1, 5), KING, ((0, 1), (0, 2), (0, 3))), True)
        self.assertIs(is_watched((1, 6), KING, ((0, 1), (0, 2), (0, 3))), False)
        self.assertIs(is_watched((3, 3), ROOK, ((0, 0), (0, 1), (0, 2))), True)
        self.assertIs(is_watched((3, 3), ROOK, ((0, 0), (1, 1), (2, 2))), False)

    def test_pieces_that_are_not_two_way(self):
        circle = (((-1, 1), (0, -1), (1, 0)), ())
        self.assertIs(is_watched((2, 2), DOWNWARD, ((0, 0), (0, 1), (1, 0), (1, 1))), False)
        self.assertIs(is_watched((2, 2), circle, ((0, 0), (0, 1), (1, 0))), True)
        self.assertIs(is_watched((2, 2), circle, ((0, 0), (1, 0))), False)
        self.assertIs(is_watched((2, 2), circle, ((0, 0), (0, 1))), False)

    def test_all_lots_of_a_board(self):
        for board in ((1, 1), (2, 3), (1, 6), (3, 3)):
            for piece in PIECES:
                for lot in plain_lots(board):
                    due = plain_is_watched(board, piece, lot)
                    self.assertIs(is_watched(board, piece, lot), due, (board, piece, lot))

    def test_one_by_one(self):
        for board, piece, lot in questions_with_lots():
            self.assertIs(is_watched(board, piece, lot), plain_is_watched(board, piece, lot), (board, piece, lot))


class HowOftenTest(unittest.TestCase):
    def test_known_lots(self):
        self.assertEqual(how_often((1, 3), KING, ()), [0, 0, 0])
        self.assertEqual(how_often((1, 3), KING, ((0, 0),)), [1, 1, 0])
        self.assertEqual(how_often((1, 3), KING, ((0, 0), (0, 2))), [1, 2, 1])
        self.assertEqual(how_often((2, 2), ROOK, ((0, 1), (1, 0))), [2, 1, 1, 2])
        self.assertEqual(how_often((2, 3), DOWNWARD, ((0, 0), (1, 0), (1, 2))), [1, 0, 0, 2, 0, 1])
        self.assertEqual(how_often((8, 8), EMPTY, tuple(plain_cells((8, 8)))), [1] * 64)

    def test_a_cell_seen_in_two_ways_by_one_piece_counts_once(self):
        self.assertEqual(how_often((1, 4), (((0, 2),), ((0, 1), (0, 2))), ((0, 0),)), [1, 1, 1, 1])

    def test_one_by_one(self):
        for board, piece, lot in questions_with_lots():
            told = how_often(board, piece, lot)
            self.assertIs(told.__class__, list)
            self.assertEqual(told, plain_counts(board, piece, lot), (board, piece, lot))
            self.assertEqual({count.__class__ for count in told}, {int})


class SeesOftenTest(unittest.TestCase):
    def test_known_lots(self):
        self.assertIs(sees_often((1, 1), KING, (), 1), False)
        self.assertIs(sees_often((1, 1), KING, ((0, 0),), 1), True)
        self.assertIs(sees_often((1, 1), KING, ((0, 0),), 2), False)
        self.assertIs(sees_often((1, 3), KING, ((0, 0), (0, 1)), 1), True)
        self.assertIs(sees_often((1, 3), KING, ((0, 0), (0, 1)), 2), False)
        self.assertIs(sees_often((1, 3), KING, ((0, 0), (0, 1), (0, 2)), 2), True)
        self.assertIs(sees_often((8, 8), QUEEN, tuple(plain_cells((8, 8))), 22), True)
        self.assertIs(sees_often((8, 8), QUEEN, tuple(plain_cells((8, 8))), 23), False)
        self.assertIs(sees_often((8, 8), QUEEN, tuple(plain_cells((8, 8))), 64), False)

    def test_one_by_one(self):
        for board, piece, lot in questions_with_lots()[::2]:
            fewest = min(plain_counts(board, piece, lot))
            for many in {1, 2, max(1, fewest), fewest + 1, 64}:
                self.assertIs(sees_often(board, piece, lot, many), fewest >= many, (board, piece, lot, many))

    def test_once_is_to_see_all(self):
        for board, piece, lot in questions_with_lots()[::3]:
            self.assertIs(sees_often(board, piece, lot, 1), plain_sees_all(board, piece, lot))


class SmallTest(unittest.TestCase):
    def test_known_numbers(self):
        self.assertIs(least_watched((1, 1), KING), None)
        self.assertIs(first_watched((1, 1), KING), None)
        self.assertEqual(least_watched((1, 2), KING), 2)
        self.assertEqual(first_watched((1, 2), KING), ((0, 0), (0, 1)))
        self.assertEqual(first_watched((1, 3), KING), ((0, 0), (0, 1)))
        self.assertEqual(least_watched((3, 4), KING), 2)
        self.assertEqual(first_watched((3, 4), KING), ((1, 1), (1, 2)))
        self.assertEqual(least_watched((3, 4), ROOK), 3)
        self.assertEqual(first_watched((2, 2), ROOK), ((0, 0), (0, 1)))
        self.assertIs(least_watched((3, 4), EMPTY), None)
        self.assertIs(least_watched((3, 4), DOWNWARD), None)
        self.assertIs(first_watched((3, 4), DOWNWARD), None)

    def test_the_fewest_watched(self):
        for board, piece in some_questions():
            due = plain_first_fewest([lot for lot in plain_lots(board) if plain_is_watched(board, piece, lot)])
            self.assertEqual(first_watched(board, piece), due, (board, piece))
            told = least_watched(board, piece)
            self.assertEqual(told, due if due is None else len(due), (board, piece))
            self.assertIn(told.__class__, (int, None.__class__))

    def test_no_fewer_than_the_least(self):
        for board, piece in some_questions():
            told = first_watched(board, piece)
            if told is not None:
                self.assertGreaterEqual(least_watched(board, piece), least(board, piece))
                self.assertIs(is_watched(board, piece, told), True)

    def test_known_numbers_of_often(self):
        self.assertEqual(least_often((1, 1), KING, 1), 1)
        self.assertIs(least_often((1, 1), KING, 2), None)
        self.assertEqual(least_often((1, 3), KING, 1), 1)
        self.assertEqual(least_often((1, 3), KING, 2), 3)
        self.assertIs(least_often((1, 3), KING, 3), None)
        self.assertEqual(least_often((2, 2), KING, 4), 4)
        self.assertIs(least_often((2, 2), KING, 5), None)
        self.assertIs(least_often((3, 4), QUEEN, 13), None)
        self.assertIs(least_often((3, 4), QUEEN, 64), None)

    def test_the_fewest_that_see_so_often(self):
        for board, piece in some_questions()[::2]:
            lots = [(min(plain_counts(board, piece, lot)), len(lot)) for lot in plain_lots(board)]
            for many in (1, 2, 3, 4, 12, 64):
                due = min([cells for fewest, cells in lots if fewest >= many], default=None)
                told = least_often(board, piece, many)
                self.assertEqual(told, due, (board, piece, many))
                self.assertIn(told.__class__, (int, None.__class__))

    def test_once_is_the_least(self):
        for board, piece in some_questions()[::3]:
            self.assertEqual(least_often(board, piece, 1), least(board, piece))

    def test_none_just_where_a_cell_has_too_few_seers(self):
        for board, piece in some_questions()[::5]:
            fewest = min(len(plain_seers(board, piece, cell)) for cell in plain_cells(board))
            self.assertIsNot(least_often(board, piece, fewest), None)
            self.assertIs(least_often(board, piece, fewest + 1), None)


class RefusalTest(unittest.TestCase):
    def test_more_than_twelve_cells(self):
        for board in great_boards():
            for call, told in ((least_watched, ()), (first_watched, ()), (least_often, (1,)), (least_often, (64,))):
                with self.assertRaises(TooGreat) as caught:
                    call(board, EMPTY, *told)
                self.assertEqual((caught.exception.many, caught.exception.most), (board[0] * board[1], 12))
        for board in small_boards():
            for call in SMALL:
                self.assertIs(refusal(call, board, KING), None, (call, board))
            self.assertIs(refusal(least_often, board, KING, 64), None)

    def test_no_numbers(self):
        for at, thing in enumerate(no_wholes(1, 64)):
            self.assertIs(refusal(sees_often, (2, 3), KING, ((0, 0),), thing), NoNumber, at)
            self.assertIs(refusal(least_often, (1, 2), KING, thing), NoNumber, at)
            self.assertIs(refusal(least_often, (8, 8), KING, thing), NoNumber, at)
        for many in range(1, 65):
            self.assertIs(refusal(sees_often, (2, 3), KING, ((0, 0),), many), None, many)
            self.assertIs(refusal(least_often, (1, 2), KING, many), None, many)

    def test_whatever_is_no_lot(self):
        for board in ((1, 1), (2, 3), (8, 8)):
            for at, thing in enumerate(no_lots(board)):
                for call in OF_LOTS:
                    self.assertIs(refusal(call, board, EMPTY, thing), NoLot, (call, board, at))
                self.assertIs(refusal(sees_often, board, EMPTY, thing, 1), NoLot, (board, at))

    def test_the_order_of_refusals(self):
        places = board_and_piece((2, 3), KING)
        for call in SMALL:
            self.assertEqual(misordered(call, places), [])
            self.assertEqual(misordered(call, board_and_piece((8, 8), KING), TooGreat), [])
        numbers = [(64, NoNumber, NO_MANY)]
        self.assertEqual(misordered(least_often, places + numbers), [])
        self.assertEqual(misordered(least_often, board_and_piece((8, 8), KING) + numbers, TooGreat), [])
        lots = [(((0, 1), (1, 2)), NoLot, NO_LOTS)]
        for call in OF_LOTS:
            self.assertEqual(misordered(call, places + lots), [])
        self.assertEqual(misordered(sees_often, shorter(places + lots + numbers, 5)), [])

    def test_refusals_are_sight_errors(self):
        asked = [(board, KING) for board in NO_BOARDS] + [((1, 1), piece) for piece in NO_PIECES]
        for call in SMALL:
            self.assertEqual(not_refused(call, asked + [((8, 8), KING)]), [])
        with_lots = [(*told, ()) for told in asked] + [((1, 1), KING, None)]
        for call in OF_LOTS:
            self.assertEqual(not_refused(call, with_lots), [])
        self.assertEqual(not_refused(sees_often, [(*told, 1) for told in with_lots] + [((1, 1), KING, (), 0)]), [])
        self.assertEqual(not_refused(least_often, [(*told, 1) for told in asked] + [((1, 1), KING, 0)]), [])


class HandedInTest(unittest.TestCase):
    def test_nothing_handed_in_is_changed(self):
        for call in OF_LOTS:
            self.assertIs(changed(call, (2, 3), KING, ()), False)
        for call in SMALL:
            self.assertIs(changed(call, (1, 2), KING), False)
        self.assertIs(changed(sees_often, (2, 3), KING, ((0, 0),), 1), False)
        self.assertIs(changed(least_often, (1, 2), KING, 1), False)

    def test_what_was_told_is_the_askers_own(self):
        for board, piece, lot in questions_with_lots()[::13]:
            first = how_often(board, piece, lot)
            kept = list(first)
            second = how_often(board, piece, lot)
            self.assertIsNot(first, second)
            first.append("more")
            first[0] = 99
            self.assertEqual(second, kept)
            second.clear()
            self.assertEqual(how_often(board, piece, lot), kept)

    def test_the_same_answer_again(self):
        questions = some_questions()[::7]
        first = [[call(*told) for call in SMALL] + [least_often(*told, 2)] for told in questions]
        again = [[call(*told) for call in SMALL] + [least_often(*told, 2)] for told in reversed(questions)]
        self.assertEqual(first, again[::-1])


if __name__ == "__main__":
    unittest.main()
