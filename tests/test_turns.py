import itertools
import unittest

from seeall.apart import is_apart, most_apart
from seeall.errors import NoBoard, NoCell, NoLot, NoPiece, NoTurn
from seeall.fewest import all_least, least, tally
from seeall.lots import seen, sees_all
from seeall.pieces import contrary, is_piece
from seeall.sights import seers, sight
from seeall.spreads import is_spread
from seeall.turns import turned_board, turned_cell, turned_lot, turned_piece
from seeall.watched import is_watched, least_watched
from tests.plain import (
    BISHOP, DOWNWARD, KING, KNIGHT, NAMED, ONE_WAY, PIECES, all_boards, plain_cells, plain_is_lot, small_boards,
    some_lots, some_pieces,
)
from tests.things import (
    NO_BOARDS, NO_LOTS, NO_PIECES, changed, misordered, no_cells, no_lots, no_wholes, not_refused, refusal,
    wrong_things,
)

TURNS = range(8)
NO_TURNS = [-1, 8, True, False, None, "0", [0], (0,), {}, 0.0]
NO_CELLS = [None, True, 0, "", (2, 0), (0, 3), (-1, 0), [0, 1], (0, True), (0, 1, 0), ((0, 1),)]
BOARDS = ((1, 1), (1, 2), (2, 1), (2, 3), (3, 3), (5, 2), (8, 8), (1, 8), (4, 7))

# Where the cell (row, column) of a board comes to by each turn, put down for itself.
CELLS = (
    lambda row, column, high, wide: (row, column),
    lambda row, column, high, wide: (column, high - 1 - row),
    lambda row, column, high, wide: (high - 1 - row, wide - 1 - column),
    lambda row, column, high, wide: (wide - 1 - column, row),
    lambda row, column, high, wide: (row, wide - 1 - column),
    lambda row, column, high, wide: (wide - 1 - column, high - 1 - row),
    lambda row, column, high, wide: (high - 1 - row, column),
    lambda row, column, high, wide: (column, row),
)
STEPS = (
    lambda down, right: (down, right),
    lambda down, right: (right, -down),
    lambda down, right: (-down, -right),
    lambda down, right: (-right, down),
    lambda down, right: (down, -right),
    lambda down, right: (-right, -down),
    lambda down, right: (-down, right),
    lambda down, right: (right, down),
)


def plain_turned_cell(board, turn, cell):
    return CELLS[turn](*cell, *board)


def plain_turned_lot(board, turn, lot):
    return tuple(sorted(plain_turned_cell(board, turn, cell) for cell in lot))


def plain_turned_piece(piece, turn):
    leaps, runs = [tuple(sorted(STEPS[turn](*step) for step in steps)) for steps in piece]
    return (leaps, runs)


class TurnedTest(unittest.TestCase):
    def test_known_boards(self):
        self.assertEqual([turned_board((2, 3), turn) for turn in TURNS], [(2, 3), (3, 2)] * 4)
        for board in all_boards():
            for turn in TURNS:
                told = turned_board(board, turn)
                self.assertIs(told.__class__, tuple)
                self.assertEqual(told, board if turn in (0, 2, 4, 6) else board[::-1], (board, turn))

    def test_known_cells(self):
        told = [turned_cell((2, 3), turn, (0, 0)) for turn in TURNS]
        self.assertEqual(told, [(0, 0), (0, 1), (1, 2), (2, 0), (0, 2), (2, 1), (1, 0), (0, 0)])
        told = [turned_cell((2, 3), turn, (1, 0)) for turn in TURNS]
        self.assertEqual(told, [(1, 0), (0, 0), (0, 2), (2, 1), (1, 2), (2, 0), (0, 0), (0, 1)])

    def test_every_cell_one_by_one(self):
        for board in all_boards():
            for turn in TURNS:
                for cell in plain_cells(board):
                    told = turned_cell(board, turn, cell)
                    self.assertIs(told.__class__, tuple)
                    self.assertEqual(told, plain_turned_cell(board, turn, cell), (board, turn, cell))

    def test_cells_come_to_all_cells_of_the_board_turned(self):
        for board in all_boards():
            for turn in TURNS:
                told = sorted(turned_cell(board, turn, cell) for cell in plain_cells(board))
                self.assertEqual(told, plain_cells(turned_board(board, turn)))

    def test_known_lots(self):
        self.assertEqual(turned_lot((2, 3), 1, ()), ())
        self.assertEqual(turned_lot((2, 3), 0, ((0, 0), (1, 2))), ((0, 0), (1, 2)))
        self.assertEqual(turned_lot((2, 3), 1, ((0, 0), (1, 0))), ((0, 0), (0, 1)))
        self.assertEqual(turned_lot((2, 3), 2, ((0, 0), (0, 1))), ((1, 1), (1, 2)))
        self.assertEqual(turned_lot((2, 3), 4, ((0, 0), (0, 1))), ((0, 1), (0, 2)))
        self.assertEqual(turned_lot((2, 3), 5, ((0, 0), (1, 2))), ((0, 0), (2, 1)))

    def test_lots_one_by_one(self):
        for board in BOARDS:
            for turn in TURNS:
                for lot in some_lots(board, "turn", 15):
                    told = turned_lot(board, turn, lot)
                    self.assertEqual(told, plain_turned_lot(board, turn, lot), (board, turn, lot))
                    self.assertIs(plain_is_lot(turned_board(board, turn), told), True)

    def test_known_pieces(self):
        told = [turned_piece((((1, 2),), ((0, 3),)), turn) for turn in TURNS]
        self.assertEqual(told, [
            (((1, 2),), ((0, 3),)), (((2, -1),), ((3, 0),)), (((-1, -2),), ((0, -3),)), (((-2, 1),), ((-3, 0),)),
            (((1, -2),), ((0, -3),)), (((-2, -1),), ((-3, 0),)), (((-1, 2),), ((0, 3),)), (((2, 1),), ((3, 0),))])
        for turn in TURNS:
            for piece in NAMED:
                self.assertEqual(turned_piece(piece, turn), piece)
        self.assertEqual(turned_piece(DOWNWARD, 1), ((), ((0, -1),)))
        self.assertEqual(turned_piece(((), ((-1, 0), (0, 1))), 4), ((), ((-1, 0), (0, -1))))

    def test_pieces_one_by_one(self):
        for piece in PIECES + tuple(some_pieces("turn", 100)):
            for turn in TURNS:
                told = turned_piece(piece, turn)
                self.assertEqual(told, plain_turned_piece(piece, turn), (piece, turn))
                self.assertIs(is_piece(told), True)


class WhatStaysTest(unittest.TestCase):
    def questions(self):
        pieces = (KNIGHT, BISHOP, ONE_WAY, DOWNWARD) + tuple(some_pieces("stay", 12))
        return [(board, piece, turn) for board in BOARDS for piece in pieces for turn in TURNS]

    def test_what_a_piece_sees_turned_the_turned_piece_sees(self):
        for board, piece, turn in self.questions():
            other_board, other_piece = turned_board(board, turn), turned_piece(piece, turn)
            for cell in plain_cells(board)[::3]:
                there = turned_cell(board, turn, cell)
                for call in (sight, seers):
                    due = turned_lot(board, turn, call(board, piece, cell))
                    self.assertEqual(call(other_board, other_piece, there), due, (board, piece, turn, cell))

    def test_what_lots_are_stays(self):
        for board, piece, turn in self.questions()[::2]:
            other_board, other_piece = turned_board(board, turn), turned_piece(piece, turn)
            for lot in some_lots(board, "stay", 3):
                other_lot = turned_lot(board, turn, lot)
                due = turned_lot(board, turn, seen(board, piece, lot))
                self.assertEqual(seen(other_board, other_piece, other_lot), due, (board, piece, turn, lot))
                for call in (sees_all, is_apart, is_watched, is_spread):
                    due = call(board, piece, lot)
                    self.assertIs(call(other_board, other_piece, other_lot), due, (board, piece, turn, lot))

    def test_the_least_stays(self):
        for board in small_boards():
            for piece in (KNIGHT, ONE_WAY, (((0, 1), (1, 2)), ())):
                for turn in (1, 2, 6, 7):
                    other = (turned_board(board, turn), turned_piece(piece, turn))
                    self.assertEqual(least(*other), least(board, piece), (board, piece, turn))
        for board, piece, turn in itertools.product(((2, 3), (1, 5), (3, 3)), (KING, DOWNWARD, ONE_WAY), TURNS):
            other = (turned_board(board, turn), turned_piece(piece, turn))
            due = sorted(turned_lot(board, turn, lot) for lot in all_least(board, piece))
            self.assertEqual(all_least(*other), due)
            for call in (least, tally, most_apart, least_watched):
                self.assertEqual(call(*other), call(board, piece), (call, board, piece, turn))

    def test_four_quarters_lead_back(self):
        for board in BOARDS:
            for cell in plain_cells(board):
                place, here = cell, board
                for quarter in range(4):
                    place, here = turned_cell(here, 1, place), turned_board(here, 1)
                self.assertEqual((place, here), (cell, board))
                self.assertEqual(turned_cell(board, 4, turned_cell(board, 4, cell)), cell)

    def test_the_contrary_turned_is_the_contrary_of_the_turned(self):
        for piece in PIECES + tuple(some_pieces("contrary", 40)):
            for turn in TURNS:
                self.assertEqual(turned_piece(contrary(piece), turn), contrary(turned_piece(piece, turn)))
            self.assertEqual(plain_turned_piece(piece, 2), contrary(piece))


class RefusalTest(unittest.TestCase):
    def test_no_turns(self):
        for at, thing in enumerate(no_wholes(0, 7)):
            self.assertIs(refusal(turned_board, (2, 3), thing), NoTurn, at)
            self.assertIs(refusal(turned_cell, (2, 3), thing, (0, 0)), NoTurn, at)
            self.assertIs(refusal(turned_lot, (2, 3), thing, ()), NoTurn, at)
            self.assertIs(refusal(turned_piece, KING, thing), NoTurn, at)

    def test_no_boards_and_no_pieces(self):
        for at, thing in enumerate(wrong_things() + [(0, 1), (9, 1), (True, 1)]):
            self.assertIs(refusal(turned_board, thing, 0), NoBoard, at)
            self.assertIs(refusal(turned_cell, thing, 0, (0, 0)), NoBoard, at)
            self.assertIs(refusal(turned_lot, thing, 0, ()), NoBoard, at)
            self.assertIs(refusal(turned_piece, thing, 0), NoPiece, at)

    def test_no_cells_and_no_lots(self):
        for board in ((1, 1), (2, 3), (8, 8)):
            for turn in (0, 5):
                for at, thing in enumerate(no_cells(board)):
                    self.assertIs(refusal(turned_cell, board, turn, thing), NoCell, (board, at))
                for at, thing in enumerate(no_lots(board)):
                    self.assertIs(refusal(turned_lot, board, turn, thing), NoLot, (board, at))

    def test_cells_of_the_board_turned_are_none(self):
        self.assertIs(refusal(turned_cell, (2, 5), 1, (4, 1)), NoCell)
        self.assertIs(refusal(turned_lot, (2, 5), 1, ((4, 1),)), NoLot)

    def test_the_order_of_refusals(self):
        board = [((2, 3), NoBoard, NO_BOARDS)]
        turn = [(7, NoTurn, NO_TURNS)]
        self.assertEqual(misordered(turned_board, board + turn), [])
        self.assertEqual(misordered(turned_cell, board + turn + [((1, 2), NoCell, NO_CELLS)]), [])
        self.assertEqual(misordered(turned_lot, board + turn + [(((0, 1), (1, 2)), NoLot, NO_LOTS)]), [])
        self.assertEqual(misordered(turned_piece, [(KING, NoPiece, NO_PIECES)] + turn), [])

    def test_refusals_are_sight_errors(self):
        self.assertEqual(not_refused(turned_board, [(None, 0), ((1, 1), 8)]), [])
        self.assertEqual(not_refused(turned_cell, [(None, 0, (0, 0)), ((1, 1), 8, (0, 0)), ((1, 1), 0, (1, 0))]), [])
        self.assertEqual(not_refused(turned_lot, [(None, 0, ()), ((1, 1), 8, ()), ((1, 1), 0, None)]), [])
        self.assertEqual(not_refused(turned_piece, [(None, 0), (KING, 8)]), [])


class HandedInTest(unittest.TestCase):
    def test_nothing_handed_in_is_changed(self):
        self.assertIs(changed(turned_board, (2, 3), 1), False)
        self.assertIs(changed(turned_cell, (2, 3), 1, (0, 0)), False)
        self.assertIs(changed(turned_lot, (2, 3), 1, ()), False)
        self.assertIs(changed(turned_piece, KING, 1), False)

    def test_the_same_answer_again(self):
        questions = [(board, turn) for board in BOARDS for turn in TURNS]
        first = [(turned_board(*told), turned_lot(*told, ((0, 0),))) for told in questions]
        again = [(turned_board(*told), turned_lot(*told, ((0, 0),))) for told in reversed(questions)]
        self.assertEqual(first, again[::-1])


if __name__ == "__main__":
    unittest.main()
