import unittest

from seeall.errors import NoBoard, NoLot
from seeall.lots import filled, is_lot, seen, sees_all, unseen
from tests.plain import (
    DOWNWARD, EMPTY, KING, NAMED, PIECES, QUEEN, ROOK, all_boards, plain_cells, plain_is_lot, plain_lots, plain_seen,
    plain_sees_all, small_boards, some_lots, some_pieces,
)
from tests.things import NO_BOARDS, board_and_piece, changed, misordered, no_lots, not_refused, refusal, told_things

CALLS = (seen, unseen, sees_all, filled)
WRONG_LOTS = [None, True, 0, "", [], {}, ((2, 0),), ((0, 3),), ((0, 1), (0, 0)), ((0, 0), (0, 0)), ([0, 0],), (0, 0)]


def some_questions():
    """Boards, pieces and lots of all sizes."""
    questions = [(board, piece, lot) for board in all_boards() for piece in NAMED for lot in some_lots(board, "n", 2)]
    for board in ((1, 1), (1, 5), (3, 3), (2, 6), (8, 8), (7, 4)):
        for piece in PIECES + tuple(some_pieces("lots", 20)):
            questions += [(board, piece, lot) for lot in some_lots(board, "other", 6)]
    return questions


def plain_filled(board, piece, lot):
    lot = list(lot)
    while not plain_sees_all(board, piece, lot):
        lot.append([cell for cell in plain_cells(board) if cell not in plain_seen(board, piece, lot)][0])
    return tuple(sorted(lot))


class IsLotTest(unittest.TestCase):
    def test_all_lots_of_small_boards(self):
        for board in small_boards(10):
            for lot in plain_lots(board):
                self.assertIs(is_lot(board, lot), True, (board, lot))

    def test_none_single_cells_and_all_cells(self):
        for board in all_boards():
            cells = plain_cells(board)
            for lot in [()] + [(cell,) for cell in cells] + [tuple(cells[:many]) for many in range(len(cells) + 1)]:
                self.assertIs(is_lot(board, lot), True, (board, lot))

    def test_some_lots_of_every_board(self):
        for board in all_boards():
            for lot in some_lots(board, "is_lot", 10):
                self.assertIs(is_lot(board, lot), True, (board, lot))

    def test_whatever_is_no_lot(self):
        for board in ((1, 1), (2, 2), (2, 3), (1, 8), (8, 1), (8, 8)):
            for at, thing in enumerate(no_lots(board)):
                self.assertIs(is_lot(board, thing), False, (board, at))

    def test_any_two_cells(self):
        cells = plain_cells((3, 4))
        for ahead in cells:
            for behind in cells:
                self.assertIs(is_lot((3, 4), (ahead, behind)), ahead < behind)

    def test_cells_of_other_boards(self):
        for board in all_boards():
            for other in all_boards():
                fits = other[0] <= board[0] and other[1] <= board[1]
                self.assertIs(is_lot(board, tuple(plain_cells(other))), fits, (board, other))

    def test_anything_one_by_one(self):
        for board in ((1, 1), (2, 2), (8, 8)):
            for at, thing in enumerate(told_things()):
                self.assertIs(is_lot(board, thing), plain_is_lot(board, thing), (board, at))

    def test_truths_are_no_numbers(self):
        for thing in (((False, 0),), ((0, False),), ((True, 1),), ((0, 0), (0, True)), ((0, 0), (True, True))):
            self.assertIs(is_lot((2, 2), thing), False, thing)

    def test_no_board(self):
        for board in NO_BOARDS:
            for thing in ((), ((0, 0),), None, []):
                self.assertIs(refusal(is_lot, board, thing), NoBoard)


class SeenTest(unittest.TestCase):
    def test_known_lots(self):
        self.assertEqual(seen((2, 3), KING, ((0, 0),)), ((0, 0), (0, 1), (1, 0), (1, 1)))
        self.assertEqual(unseen((2, 3), KING, ((0, 0),)), ((0, 2), (1, 2)))
        self.assertEqual(seen((1, 3), EMPTY, ((0, 0), (0, 2))), ((0, 0), (0, 2)))
        self.assertEqual(unseen((1, 3), EMPTY, ((0, 0), (0, 2))), ((0, 1),))
        self.assertEqual(seen((2, 2), DOWNWARD, ((1, 0),)), ((1, 0),))
        self.assertEqual(seen((2, 2), DOWNWARD, ((0, 0),)), ((0, 0), (1, 0)))

    def test_others_are_never_in_the_way(self):
        self.assertEqual(seen((1, 8), ((), ((0, 1),)), ((0, 0), (0, 1))), tuple((0, k) for k in range(8)))
        self.assertEqual(unseen((8, 8), ROOK, tuple((k, k) for k in range(8))), ())

    def test_the_lot_of_no_cells(self):
        for board in all_boards():
            for piece in (KING, EMPTY, QUEEN):
                self.assertEqual(seen(board, piece, ()), ())
                self.assertEqual(unseen(board, piece, ()), tuple(plain_cells(board)))
                self.assertIs(sees_all(board, piece, ()), False)

    def test_the_lot_of_all_cells(self):
        for board in all_boards():
            cells = tuple(plain_cells(board))
            for piece in PIECES:
                self.assertEqual(seen(board, piece, cells), cells)
                self.assertEqual(unseen(board, piece, cells), ())
                self.assertIs(sees_all(board, piece, cells), True)

    def test_one_by_one(self):
        for board, piece, lot in some_questions():
            due = plain_seen(board, piece, lot)
            others = tuple(cell for cell in plain_cells(board) if cell not in due)
            self.assertEqual(seen(board, piece, lot), due, (board, piece, lot))
            self.assertEqual(unseen(board, piece, lot), others, (board, piece, lot))
            self.assertIs(sees_all(board, piece, lot), others == (), (board, piece, lot))

    def test_together_all_cells_none_twice(self):
        for board, piece, lot in some_questions()[::5]:
            told = seen(board, piece, lot), unseen(board, piece, lot)
            self.assertEqual([part.__class__ for part in told], [tuple, tuple])
            self.assertEqual(sorted(told[0] + told[1]), plain_cells(board))
            for part in told:
                self.assertEqual(list(part), sorted(set(part)))

    def test_all_lots_of_a_board(self):
        for board in ((2, 3), (3, 3), (1, 6)):
            for piece in PIECES:
                for lot in plain_lots(board):
                    due = plain_seen(board, piece, lot)
                    self.assertEqual(seen(board, piece, lot), due)
                    self.assertIs(sees_all(board, piece, lot), len(due) == board[0] * board[1])


class FilledTest(unittest.TestCase):
    def test_known_lots(self):
        self.assertEqual(filled((1, 1), EMPTY, ()), ((0, 0),))
        self.assertEqual(filled((1, 5), KING, ()), ((0, 0), (0, 2), (0, 4)))
        self.assertEqual(filled((1, 5), KING, ((0, 3),)), ((0, 0), (0, 3)))
        self.assertEqual(filled((3, 3), ROOK, ((1, 1),)), ((0, 0), (1, 1), (2, 2)))
        self.assertEqual(filled((3, 1), DOWNWARD, ((1, 0),)), ((0, 0), (1, 0)))
        self.assertEqual(filled((3, 1), ((), ((-1, 0),)), ()), ((0, 0), (1, 0), (2, 0)))

    def test_one_by_one(self):
        for board, piece, lot in some_questions():
            if board[0] * board[1] <= 24:
                due = plain_filled(board, piece, lot)
                self.assertEqual(filled(board, piece, lot), due, (board, piece, lot))

    def test_great_boards_one_by_one(self):
        for board in ((8, 8), (7, 6)):
            for piece in PIECES:
                for lot in some_lots(board, "filled", 1):
                    self.assertEqual(filled(board, piece, lot), plain_filled(board, piece, lot), (board, piece, lot))

    def test_what_is_filled_is_a_lot_that_sees_all(self):
        for board, piece, lot in some_questions():
            told = filled(board, piece, lot)
            self.assertIs(plain_is_lot(board, told), True)
            self.assertIs(plain_sees_all(board, piece, told), True)
            self.assertLessEqual(set(lot), set(told))

    def test_a_lot_that_sees_all_stays(self):
        for board, piece, lot in some_questions():
            if plain_sees_all(board, piece, lot):
                self.assertEqual(filled(board, piece, lot), lot)
            told = filled(board, piece, lot)
            self.assertEqual(filled(board, piece, told), told)


class RefusalTest(unittest.TestCase):
    def test_whatever_is_no_lot(self):
        for board in ((1, 1), (2, 3)):
            for at, thing in enumerate(no_lots(board)):
                for call in CALLS:
                    self.assertIs(refusal(call, board, KING, thing), NoLot, (call, board, at))

    def test_the_order_of_refusals(self):
        for call in CALLS:
            places = board_and_piece((2, 3), KING) + [(((0, 1), (1, 2)), NoLot, WRONG_LOTS)]
            self.assertEqual(misordered(call, places), [])

    def test_refusals_are_sight_errors(self):
        for call in CALLS:
            asked = [(None, KING, ()), ((1, 1), None, ()), ((1, 1), KING, None)]
            self.assertEqual(not_refused(call, asked), [])


class HandedInTest(unittest.TestCase):
    def test_nothing_handed_in_is_changed(self):
        for call in CALLS:
            self.assertIs(changed(call, (3, 3), KING, ()), False)
        self.assertIs(changed(is_lot, (3, 3), ()), False)

    def test_the_same_answer_again(self):
        questions = some_questions()[::9]
        first = [[call(*told) for call in CALLS] for told in questions]
        again = [[call(*told) for call in reversed(CALLS)] for told in reversed(questions)]
        self.assertEqual(first, [answers[::-1] for answers in reversed(again)])


if __name__ == "__main__":
    unittest.main()
