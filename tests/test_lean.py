import unittest

from seeall.errors import NoCell, NoLot, NoSight
from seeall.lean import alone, is_lean, thinned
from seeall.lots import filled
from tests.plain import (
    DOWNWARD, EMPTY, KING, KNIGHT, NAMED, PIECES, QUEEN, ROOK, all_boards, plain_cells, plain_is_lean, plain_is_lot,
    plain_lots, plain_seen, plain_sees_all, plain_sight, plain_without, some_lots, some_pieces,
)
from tests.things import board_and_piece, changed, misordered, no_cells, no_lots, not_refused, refusal

WRONG_LOTS = [None, True, "", [], {}, ((2, 0),), ((0, 1), (0, 0)), ((0, 0), (0, 0)), ([0, 0],), (0, 0)]
WRONG_CELLS = [None, True, 0, "", (2, 0), (0, 3), (0, 0), (1, 1), (-1, 0), [0, 1], (0, True), (0, 1, 0), ((0, 1),)]


def some_questions():
    """Boards, pieces and lots: those that see all cells, and others."""
    questions = [(board, piece, lot) for board in all_boards() for piece in NAMED for lot in some_lots(board, "n", 1)]
    for board in ((1, 1), (1, 5), (3, 3), (2, 6), (5, 4), (8, 8)):
        for piece in PIECES + tuple(some_pieces("lean", 15)):
            questions += [(board, piece, lot) for lot in some_lots(board, "other", 5)]
            questions += [(board, piece, filled(board, piece, lot)) for lot in some_lots(board, "full", 2)]
    return questions


def plain_alone(board, piece, lot, cell):
    others = plain_seen(board, piece, plain_without(lot, cell))
    return tuple(other for other in plain_sight(board, piece, cell) if other not in others)


def plain_thinned(board, piece, lot):
    for cell in lot[::-1]:
        if plain_sees_all(board, piece, plain_without(lot, cell)):
            lot = plain_without(lot, cell)
    return lot


class AloneTest(unittest.TestCase):
    def test_known_lots(self):
        self.assertEqual(alone((1, 4), KING, ((0, 1), (0, 2)), (0, 1)), ((0, 0),))
        self.assertEqual(alone((1, 4), KING, ((0, 1), (0, 2)), (0, 2)), ((0, 3),))
        self.assertEqual(alone((1, 4), KING, ((0, 1),), (0, 1)), ((0, 0), (0, 1), (0, 2)))
        self.assertEqual(alone((2, 1), DOWNWARD, ((0, 0), (1, 0)), (1, 0)), ())
        self.assertEqual(alone((2, 1), DOWNWARD, ((0, 0), (1, 0)), (0, 0)), ((0, 0),))
        self.assertEqual(alone((2, 2), QUEEN, ((0, 0), (1, 1)), (0, 0)), ())

    def test_one_by_one(self):
        for board, piece, lot in some_questions():
            for cell in lot[:3] + lot[-2:]:
                told = alone(board, piece, lot, cell)
                self.assertIs(told.__class__, tuple)
                self.assertEqual(told, plain_alone(board, piece, lot, cell), (board, piece, lot, cell))

    def test_all_lots_of_a_board(self):
        for board in ((2, 3), (1, 6)):
            for piece in PIECES:
                for lot in plain_lots(board):
                    for cell in lot:
                        self.assertEqual(alone(board, piece, lot, cell), plain_alone(board, piece, lot, cell))

    def test_cells_of_the_board_that_are_not_of_the_lot(self):
        for board in ((1, 1), (2, 3), (4, 4), (8, 8)):
            for lot in some_lots(board, "none", 5):
                for cell in plain_cells(board):
                    due = None if cell in lot else NoCell
                    self.assertIs(refusal(alone, board, KNIGHT, lot, cell), due, (board, lot, cell))

    def test_whatever_is_no_cell(self):
        for board in ((1, 1), (2, 3), (8, 8)):
            for lot in ((), tuple(plain_cells(board))):
                for at, thing in enumerate(no_cells(board)):
                    self.assertIs(refusal(alone, board, KING, lot, thing), NoCell, (board, at))

    def test_the_order_of_refusals(self):
        places = board_and_piece((2, 3), KING)
        places += [(((0, 1), (1, 2)), NoLot, WRONG_LOTS), ((0, 1), NoCell, WRONG_CELLS)]
        places[0] = (places[0][0], places[0][1], places[0][2][:4])
        places[1] = (places[1][0], places[1][1], places[1][2][:4])
        self.assertEqual(misordered(alone, places), [])


class IsLeanTest(unittest.TestCase):
    def test_known_lots(self):
        self.assertIs(is_lean((1, 1), EMPTY, ()), False)
        self.assertIs(is_lean((1, 1), EMPTY, ((0, 0),)), True)
        self.assertIs(is_lean((1, 3), KING, ((0, 1),)), True)
        self.assertIs(is_lean((1, 3), KING, ((0, 0), (0, 2))), True)
        self.assertIs(is_lean((1, 3), KING, ((0, 0), (0, 1))), False)
        self.assertIs(is_lean((1, 3), KING, ((0, 0),)), False)
        self.assertIs(is_lean((3, 3), ROOK, ((0, 0), (0, 1), (0, 2))), True)
        self.assertIs(is_lean((3, 3), ROOK, ((0, 0), (0, 1), (0, 2), (2, 2))), False)

    def test_all_lots_of_a_board(self):
        for board in ((1, 1), (2, 3), (1, 6), (3, 3)):
            for piece in PIECES:
                for lot in plain_lots(board):
                    self.assertIs(is_lean(board, piece, lot), plain_is_lean(board, piece, lot), (board, piece, lot))

    def test_one_by_one(self):
        for board, piece, lot in some_questions():
            self.assertIs(is_lean(board, piece, lot), plain_is_lean(board, piece, lot), (board, piece, lot))


class ThinnedTest(unittest.TestCase):
    def test_known_lots(self):
        self.assertEqual(thinned((1, 1), EMPTY, ((0, 0),)), ((0, 0),))
        self.assertEqual(thinned((1, 3), KING, ((0, 0), (0, 1), (0, 2))), ((0, 1),))
        self.assertEqual(thinned((1, 4), KING, ((0, 0), (0, 1), (0, 2), (0, 3))), ((0, 0), (0, 2)))
        self.assertEqual(thinned((1, 3), KING, ((0, 1), (0, 2))), ((0, 1),))
        self.assertEqual(thinned((1, 3), KING, ((0, 0), (0, 2))), ((0, 0), (0, 2)))
        self.assertEqual(thinned((2, 2), ROOK, ((0, 0), (0, 1), (1, 0), (1, 1))), ((0, 0), (0, 1)))
        self.assertEqual(thinned((3, 1), DOWNWARD, ((0, 0), (1, 0), (2, 0))), ((0, 0),))

    def test_one_by_one(self):
        for board, piece, lot in some_questions():
            if plain_sees_all(board, piece, lot):
                told = thinned(board, piece, lot)
                self.assertEqual(told, plain_thinned(board, piece, lot), (board, piece, lot))
                self.assertIs(plain_is_lot(board, told), True)
                self.assertIs(plain_is_lean(board, piece, told), True)

    def test_all_lots_of_a_board(self):
        for board in ((2, 3), (1, 6), (3, 3)):
            for piece in PIECES:
                for lot in plain_lots(board):
                    if plain_sees_all(board, piece, lot):
                        self.assertEqual(thinned(board, piece, lot), plain_thinned(board, piece, lot))

    def test_a_lean_lot_stays(self):
        for board, piece, lot in some_questions():
            if plain_is_lean(board, piece, lot):
                self.assertEqual(thinned(board, piece, lot), lot)

    def test_filled_and_then_thinned_is_lean(self):
        for board in all_boards():
            for piece in PIECES:
                for lot in some_lots(board, "both", 0):
                    told = thinned(board, piece, filled(board, piece, lot))
                    self.assertIs(is_lean(board, piece, told), True, (board, piece, lot))

    def test_lots_that_do_not_see_all(self):
        for board, piece, lot in some_questions():
            due = None if plain_sees_all(board, piece, lot) else NoSight
            self.assertIs(refusal(thinned, board, piece, lot), due, (board, piece, lot))


class RefusalTest(unittest.TestCase):
    def test_whatever_is_no_lot(self):
        for board in ((1, 1), (2, 3)):
            for at, thing in enumerate(no_lots(board)):
                for call in (is_lean, thinned):
                    self.assertIs(refusal(call, board, KING, thing), NoLot, (call, board, at))
                self.assertIs(refusal(alone, board, KING, thing, (0, 0)), NoLot, (board, at))

    def test_the_order_of_refusals(self):
        lot = ((0, 0), (0, 2), (1, 1))
        for call in (is_lean, thinned):
            places = board_and_piece((2, 3), KING) + [(lot, NoLot, WRONG_LOTS)]
            self.assertEqual(misordered(call, places), [])
        places = board_and_piece((2, 3), KING) + [(((0, 0),), NoLot, WRONG_LOTS)]
        self.assertEqual(misordered(thinned, places, NoSight), [])

    def test_refusals_are_sight_errors(self):
        asked = [(None, KING, ()), ((1, 1), None, ()), ((1, 1), KING, None)]
        self.assertEqual(not_refused(is_lean, asked), [])
        self.assertEqual(not_refused(thinned, asked + [((1, 1), KING, ())]), [])
        self.assertEqual(not_refused(alone, [(*told, (0, 0)) for told in asked + [((1, 1), KING, ())]]), [])


class HandedInTest(unittest.TestCase):
    def test_nothing_handed_in_is_changed(self):
        for call in (is_lean, thinned):
            self.assertIs(changed(call, (1, 2), KING, ((0, 0),)), False)
        self.assertIs(changed(alone, (1, 2), KING, ((0, 0),), (0, 0)), False)

    def test_the_same_answer_again(self):
        questions = [told for told in some_questions()[::7] if told[2]]
        first = [(alone(*told, told[2][0]), is_lean(*told), refusal(thinned, *told)) for told in questions]
        again = [(alone(*told, told[2][0]), is_lean(*told), refusal(thinned, *told)) for told in reversed(questions)]
        self.assertEqual(first, again[::-1])


if __name__ == "__main__":
    unittest.main()
