import unittest

from seeall.errors import TooGreat
from seeall.fewest import least
from seeall.spreads import is_spread, some_spread
from tests.plain import (
    DOWNWARD, EMPTY, KING, KNIGHT, NAMED, PIECES, QUEEN, ROOK, all_boards, great_boards, plain_cells, plain_is_lot,
    plain_lots, plain_sight, small_boards, some_lots, some_pieces,
)
from tests.things import (
    NO_BOARDS, NO_PIECES, board_and_piece, changed, misordered, nested, no_lots, not_refused, refusal, told_things,
)


def plain_is_spread(board, piece, lot):
    return all(len([cell for cell in plain_sight(board, piece, place) if cell in lot]) < 2
               for place in plain_cells(board))


def some_questions():
    questions = [(board, piece) for board in small_boards() for piece in NAMED]
    questions += [(board, piece) for board in small_boards(9) for piece in PIECES + tuple(some_pieces("spread", 10))]
    questions += [(board, piece) for board in ((3, 4), (6, 2)) for piece in PIECES[5:]]
    return questions


class IsSpreadTest(unittest.TestCase):
    def test_known_lots(self):
        self.assertIs(is_spread((1, 4), KING, ((0, 0), (0, 3))), True)
        self.assertIs(is_spread((1, 4), KING, ((0, 0), (0, 2))), False)
        self.assertIs(is_spread((1, 4), KING, ((0, 0), (0, 1))), False)
        self.assertIs(is_spread((3, 3), ROOK, ((0, 0), (1, 1))), False)
        self.assertIs(is_spread((3, 3), EMPTY, tuple(plain_cells((3, 3)))), True)
        self.assertIs(is_spread((8, 8), KING, tuple((row, column) for row in (0, 3, 6) for column in (0, 3, 6))), True)
        self.assertIs(is_spread((8, 8), KNIGHT, ((0, 0), (0, 1))), True)

    def test_pieces_that_are_not_two_way(self):
        self.assertIs(is_spread((2, 1), DOWNWARD, ((0, 0), (1, 0))), False)
        self.assertIs(is_spread((2, 2), DOWNWARD, ((1, 0), (1, 1))), True)
        both_ways = (((1, -1), (1, 1)), ())
        self.assertIs(is_spread((2, 3), both_ways, ((1, 0), (1, 2))), False)
        self.assertIs(is_spread((2, 3), both_ways, ((0, 0), (0, 2))), True)
        self.assertIs(is_spread((2, 3), (((-1, -1), (-1, 1)), ()), ((1, 0), (1, 2))), True)
        self.assertIs(is_spread((2, 3), (((-1, -1), (-1, 1)), ()), ((0, 0), (0, 2))), False)

    def test_none_and_single_cells(self):
        for board in all_boards():
            for piece in (QUEEN, KNIGHT, EMPTY, DOWNWARD):
                for lot in [()] + [(cell,) for cell in plain_cells(board)]:
                    self.assertIs(is_spread(board, piece, lot), True, (board, lot))

    def test_all_lots_of_a_board(self):
        for board in ((1, 1), (2, 3), (3, 2), (1, 7), (3, 3)):
            for piece in PIECES:
                for lot in plain_lots(board):
                    self.assertIs(is_spread(board, piece, lot), plain_is_spread(board, piece, lot), (board, piece, lot))

    def test_one_by_one(self):
        for board in ((8, 8), (4, 7), (7, 2), (5, 5)):
            cells = plain_cells(board)
            for piece in PIECES:
                couples = [(cells[at], cells[further]) for at in (0, 3, 5) for further in range(at + 1, len(cells), 2)]
                for lot in some_lots(board, "spread", 4) + couples:
                    self.assertIs(is_spread(board, piece, lot), plain_is_spread(board, piece, lot), (board, piece, lot))

    def test_whatever_is_no_lot(self):
        for board in ((1, 1), (2, 3), (8, 8)):
            for at, thing in enumerate(no_lots(board)):
                self.assertIs(is_spread(board, EMPTY, thing), False, (board, at))
        for depth in (100, 3000):
            self.assertIs(is_spread((8, 8), EMPTY, nested(depth, lambda thing: (thing,), (0, 0))), False)

    def test_anything_one_by_one(self):
        for board in ((1, 1), (2, 2), (8, 8)):
            for at, thing in enumerate(told_things()):
                due = plain_is_lot(board, thing) and plain_is_spread(board, KING, thing)
                self.assertIs(is_spread(board, KING, thing), due, (board, at))


class SomeSpreadTest(unittest.TestCase):
    def test_known_boards(self):
        self.assertEqual(some_spread((1, 1), KING), ((0, 0),))
        self.assertEqual(some_spread((2, 2), EMPTY), tuple(plain_cells((2, 2))))
        self.assertEqual(some_spread((1, 4), KING), ((0, 0), (0, 3)))
        self.assertEqual(len(some_spread((3, 4), ROOK)), 1)
        self.assertEqual(len(some_spread((4, 3), DOWNWARD)), 3)
        self.assertEqual(len(some_spread((1, 8), KING)), 3)

    def test_as_many_cells_as_any(self):
        for board, piece in some_questions():
            told = some_spread(board, piece)
            self.assertIs(plain_is_lot(board, told), True, (board, piece))
            self.assertIs(plain_is_spread(board, piece, told), True, (board, piece))
            longer = [lot for lot in plain_lots(board) if len(lot) == len(told) + 1]
            self.assertFalse(any(plain_is_spread(board, piece, lot) for lot in longer), (board, piece))

    def test_a_spread_has_no_more_cells_than_the_least(self):
        for board, piece in some_questions():
            told = some_spread(board, piece)
            self.assertIs(is_spread(board, piece, told), True)
            self.assertLessEqual(len(told), least(board, piece))

    def test_more_than_twelve_cells(self):
        for board in great_boards():
            with self.assertRaises(TooGreat) as caught:
                some_spread(board, EMPTY)
            self.assertEqual((caught.exception.many, caught.exception.most), (board[0] * board[1], 12))
        for board in small_boards():
            self.assertIs(refusal(some_spread, board, KING), None)


class RefusalTest(unittest.TestCase):
    def test_the_order_of_refusals(self):
        self.assertEqual(misordered(some_spread, board_and_piece((2, 3), KING)), [])
        self.assertEqual(misordered(some_spread, board_and_piece((8, 8), KING), TooGreat), [])
        for thing in ((), ((0, 0),), None, [], "no lot", ((9, 9),)):
            places = board_and_piece((2, 3), KING) + [(thing, None, [])]
            self.assertEqual(misordered(is_spread, places), [])

    def test_refusals_are_sight_errors(self):
        asked = [(board, KING) for board in NO_BOARDS] + [((1, 1), piece) for piece in NO_PIECES] + [((8, 8), KING)]
        self.assertEqual(not_refused(some_spread, asked), [])
        self.assertEqual(not_refused(is_spread, [(*told, ()) for told in asked[:-1]]), [])


class HandedInTest(unittest.TestCase):
    def test_nothing_handed_in_is_changed(self):
        self.assertIs(changed(is_spread, (3, 3), KING, ()), False)
        self.assertIs(changed(some_spread, (1, 2), KING), False)

    def test_the_same_answer_again(self):
        questions = some_questions()[::6]
        first = [some_spread(*told) for told in questions]
        again = [some_spread(*told) for told in reversed(questions)]
        self.assertEqual(first, again[::-1])
        self.assertEqual([is_spread(*told, lot) for told, lot in zip(questions, first)], [True] * len(questions))


if __name__ == "__main__":
    unittest.main()
