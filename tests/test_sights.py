import unittest

from seeall.errors import NoCell
from seeall.pieces import contrary, named
from seeall.sights import seers, sight
from tests.plain import (
    EMPTY, KING, PIECES, all_boards, plain_cells, plain_seers, plain_sight, some_pieces,
)
from tests.things import board_and_piece, changed, misordered, no_cells, not_refused, refusal

BOARDS = [(1, 1), (1, 8), (8, 1), (2, 3), (3, 2), (4, 4), (5, 7), (7, 5), (8, 8)]


class SightTest(unittest.TestCase):
    def test_known_sights(self):
        self.assertEqual(sight((1, 1), named("queen"), (0, 0)), ((0, 0),))
        self.assertEqual(sight((3, 3), named("king"), (0, 0)), ((0, 0), (0, 1), (1, 0), (1, 1)))
        self.assertEqual(sight((3, 3), named("rook"), (1, 1)), ((0, 1), (1, 0), (1, 1), (1, 2), (2, 1)))
        self.assertEqual(sight((3, 3), named("bishop"), (0, 0)), ((0, 0), (1, 1), (2, 2)))
        self.assertEqual(sight((3, 3), named("knight"), (0, 0)), ((0, 0), (1, 2), (2, 1)))
        self.assertEqual(sight((3, 3), named("knight"), (1, 1)), ((1, 1),))
        self.assertEqual(len(sight((8, 8), named("queen"), (3, 3))), 28)
        self.assertEqual(len(sight((8, 8), named("rook"), (0, 7))), 15)

    def test_a_piece_without_steps_sees_its_cell(self):
        for cell in plain_cells((8, 8)):
            self.assertEqual(sight((8, 8), EMPTY, cell), (cell,))
            self.assertEqual(seers((8, 8), EMPTY, cell), (cell,))

    def test_a_leap_is_done_once(self):
        self.assertEqual(sight((1, 8), (((0, 1),), ()), (0, 2)), ((0, 2), (0, 3)))
        self.assertEqual(sight((1, 8), (((0, 3),), ()), (0, 5)), ((0, 5),))

    def test_a_run_is_done_again_and_again(self):
        self.assertEqual(sight((1, 8), ((), ((0, 1),)), (0, 5)), ((0, 5), (0, 6), (0, 7)))
        self.assertEqual(sight((1, 8), ((), ((0, 3),)), (0, 0)), ((0, 0), (0, 3), (0, 6)))
        self.assertEqual(sight((1, 8), ((), ((0, 3),)), (0, 5)), ((0, 5),))
        self.assertEqual(sight((8, 8), ((), ((-3, 2),)), (7, 0)), ((1, 4), (4, 2), (7, 0)))
        self.assertEqual(sight((8, 1), ((), ((-2, 0),)), (7, 0)), ((1, 0), (3, 0), (5, 0), (7, 0)))

    def test_leaps_and_runs_together_tell_each_cell_once(self):
        self.assertEqual(sight((1, 5), (((0, 2),), ((0, 1), (0, 2))), (0, 0)), tuple((0, k) for k in range(5)))
        self.assertEqual(sight((1, 5), (((0, -1),), ((0, 2),)), (0, 1)), ((0, 0), (0, 1), (0, 3)))

    def test_leaps_are_no_runs(self):
        self.assertEqual(sight((1, 5), (((0, 1),), ()), (0, 0)), ((0, 0), (0, 1)))
        self.assertEqual(sight((1, 5), ((), ((0, 1),)), (0, 0)), tuple((0, k) for k in range(5)))

    def test_down_and_right(self):
        self.assertEqual(sight((4, 4), (((1, 0),), ()), (1, 1)), ((1, 1), (2, 1)))
        self.assertEqual(sight((4, 4), (((0, 1),), ()), (1, 1)), ((1, 1), (1, 2)))
        self.assertEqual(sight((2, 8), ((), ((0, 1),)), (1, 6)), ((1, 6), (1, 7)))
        self.assertEqual(sight((8, 2), ((), ((1, 0),)), (6, 1)), ((6, 1), (7, 1)))

    def test_every_board_and_cell_one_by_one(self):
        for board in all_boards():
            for piece in PIECES:
                for cell in plain_cells(board)[::3] + plain_cells(board)[-1:]:
                    self.assertEqual(sight(board, piece, cell), plain_sight(board, piece, cell), (board, piece, cell))

    def test_other_pieces_one_by_one(self):
        for piece in some_pieces("sight", 150):
            for board in ((1, 1), (3, 4), (8, 8), (2, 7)):
                for cell in plain_cells(board)[::5] + plain_cells(board)[-1:]:
                    self.assertEqual(sight(board, piece, cell), plain_sight(board, piece, cell), (board, piece, cell))

    def test_kinds_of_values(self):
        for call in (sight, seers):
            for piece in PIECES:
                told = call((8, 8), piece, (3, 4))
                self.assertIs(told.__class__, tuple)
                for cell in told:
                    self.assertIs(cell.__class__, tuple)
                    self.assertEqual([number.__class__ for number in cell], [int, int])


class SeersTest(unittest.TestCase):
    def test_known_seers(self):
        self.assertEqual(seers((1, 4), (((0, 1),), ()), (0, 2)), ((0, 1), (0, 2)))
        self.assertEqual(seers((1, 4), ((), ((0, 1),)), (0, 2)), ((0, 0), (0, 1), (0, 2)))
        self.assertEqual(seers((1, 4), ((), ((0, 1),)), (0, 0)), ((0, 0),))
        self.assertEqual(seers((2, 2), (((1, 1),), ()), (1, 1)), ((0, 0), (1, 1)))
        self.assertEqual(seers((1, 8), ((), ((0, 3),)), (0, 7)), ((0, 1), (0, 4), (0, 7)))

    def test_just_the_cells_whose_sight_has_the_cell(self):
        for board in BOARDS:
            for piece in PIECES:
                cells = plain_cells(board)
                sights = {cell: sight(board, piece, cell) for cell in cells}
                for cell in cells:
                    due = tuple(other for other in cells if cell in sights[other])
                    self.assertEqual(seers(board, piece, cell), due, (board, piece, cell))

    def test_every_board_one_by_one(self):
        for board in all_boards():
            for piece in PIECES:
                for cell in plain_cells(board)[::4]:
                    self.assertEqual(seers(board, piece, cell), plain_seers(board, piece, cell), (board, piece, cell))

    def test_the_same_as_the_sight_of_the_contrary(self):
        for board in BOARDS:
            for piece in PIECES + tuple(some_pieces("seers", 30)):
                for cell in plain_cells(board)[::2]:
                    self.assertEqual(seers(board, piece, cell), sight(board, contrary(piece), cell))
                    self.assertEqual(sight(board, piece, cell), seers(board, contrary(piece), cell))


class RefusalTest(unittest.TestCase):
    def test_whatever_is_no_cell(self):
        for board in ((1, 1), (2, 3), (8, 8), (1, 8), (8, 1)):
            for at, thing in enumerate(no_cells(board)):
                self.assertIs(refusal(sight, board, KING, thing), NoCell, (board, at))
                self.assertIs(refusal(seers, board, KING, thing), NoCell, (board, at))

    def test_cells_of_the_turned_board(self):
        self.assertIs(refusal(sight, (2, 5), KING, (4, 1)), NoCell)
        self.assertIs(refusal(sight, (5, 2), KING, (1, 4)), NoCell)
        self.assertIs(refusal(sight, (2, 5), KING, (1, 4)), None)
        self.assertIs(refusal(seers, (5, 2), KING, (4, 1)), None)

    def test_the_order_of_refusals(self):
        cells = [None, True, (2, 0), (0, 3), (-1, 0), (False, 0), [0, 0], (0,), "0,0", {}]
        for call in (sight, seers):
            places = board_and_piece((2, 3), KING) + [((1, 2), NoCell, cells)]
            self.assertEqual(misordered(call, places), [])

    def test_refusals_are_sight_errors(self):
        for call in (sight, seers):
            asked = [(None, KING, (0, 0)), ((1, 1), None, (0, 0)), ((1, 1), KING, (1, 0))]
            self.assertEqual(not_refused(call, asked), [])


class HandedInTest(unittest.TestCase):
    def test_nothing_handed_in_is_changed(self):
        for call in (sight, seers):
            self.assertIs(changed(call, (2, 3), KING, (0, 0)), False)

    def test_the_same_answer_again(self):
        questions = [(board, piece, cell) for board in BOARDS for piece in PIECES for cell in plain_cells(board)[:2]]
        first = [(sight(*told), seers(*told)) for told in questions]
        again = [(sight(*told), seers(*told)) for told in reversed(questions)]
        self.assertEqual(first, again[::-1])


if __name__ == "__main__":
    unittest.main()
