"""What the document promises over the whole program: [1], [2], [3], [4] and the interface."""

import copy
import importlib
import inspect
import itertools
import unittest

from seeall import errors
from seeall.apart import all_most_apart, first_apart, is_apart, least_apart, most_apart, taken
from seeall.desk import Desk
from seeall.fewest import all_lean, all_least, first_least, least, many_lots, tally
from seeall.forms import form, least_form_counts, least_forms, own_turns
from seeall.great import king_at, king_of, kings, rook_lots, rooks, rooks_see
from seeall.lean import is_lean, thinned
from seeall.lots import filled, sees_all
from seeall.papers import is_paper, some_paper
from seeall.pieces import contrary, is_two_way
from seeall.prices import bound, cap
from seeall.spreads import is_spread, some_spread
from seeall.texts import lot_text, piece_text, read_lot, read_piece
from seeall.turns import turned_board, turned_lot, turned_piece
from seeall.watched import first_watched, is_watched, least_often, least_watched
from seeall.ways import hidden, seen_so
from tests.plain import (
    BISHOP, DOWNWARD, KING, KNIGHT, NAMED, ONE_WAY, PIECES, ROOK, all_boards, plain_cells, plain_lots_that_see_all,
    plain_sees_all, small_boards, some_pieces,
)
from tests.things import refusal

TEXT = "leaps -1,2 1,0 runs"
LOT = ((0, 1), (1, 2))
ALL = tuple(plain_cells((2, 3)))

# Each function of the interface: its module, its name, its parameters, and a right question for them.
INTERFACE = [
    ("boards", "is_board", "thing", ((2, 3),)),
    ("boards", "cells_of", "board", ((2, 3),)),
    ("pieces", "is_piece", "thing", (KING,)),
    ("pieces", "named", "name", ("king",)),
    ("pieces", "contrary", "piece", (KING,)),
    ("pieces", "is_two_way", "piece", (KING,)),
    ("sights", "sight", "board piece cell", ((2, 3), KING, (0, 1))),
    ("sights", "seers", "board piece cell", ((2, 3), KING, (0, 1))),
    ("lots", "is_lot", "board thing", ((2, 3), LOT)),
    ("lots", "seen", "board piece lot", ((2, 3), KING, LOT)),
    ("lots", "unseen", "board piece lot", ((2, 3), KING, LOT)),
    ("lots", "sees_all", "board piece lot", ((2, 3), KING, LOT)),
    ("lots", "filled", "board piece lot", ((2, 3), KING, LOT)),
    ("lean", "alone", "board piece lot cell", ((2, 3), KING, LOT, (0, 1))),
    ("lean", "is_lean", "board piece lot", ((2, 3), KING, LOT)),
    ("lean", "thinned", "board piece lot", ((2, 3), KING, ALL)),
    ("fewest", "least", "board piece", ((2, 3), KING)),
    ("fewest", "all_least", "board piece", ((2, 3), KING)),
    ("fewest", "first_least", "board piece", ((2, 3), KING)),
    ("fewest", "many_lots", "board piece many", ((2, 3), KING, 2)),
    ("fewest", "tally", "board piece", ((2, 3), KING)),
    ("fewest", "all_lean", "board piece", ((2, 3), KING)),
    ("spreads", "is_spread", "board piece thing", ((2, 3), KING, LOT)),
    ("spreads", "some_spread", "board piece", ((2, 3), KING)),
    ("prices", "cap", "board piece prices", ((2, 3), KING, (1, 2, 3, 4, 5, 6))),
    ("prices", "bound", "board piece prices", ((2, 3), KING, (1, 2, 3, 4, 5, 6))),
    ("papers", "is_paper", "board piece held most thing", ((2, 3), KING, LOT, 1, ("full",))),
    ("papers", "some_paper", "board piece most", ((2, 3), KING, 0)),
    ("apart", "is_apart", "board piece thing", ((2, 3), KING, LOT)),
    ("apart", "taken", "board piece", ((2, 3), KING)),
    ("apart", "least_apart", "board piece", ((2, 3), KING)),
    ("apart", "first_apart", "board piece", ((2, 3), KING)),
    ("apart", "most_apart", "board piece", ((2, 3), KING)),
    ("apart", "all_most_apart", "board piece", ((2, 3), KING)),
    ("watched", "is_watched", "board piece lot", ((2, 3), KING, LOT)),
    ("watched", "least_watched", "board piece", ((2, 3), KING)),
    ("watched", "first_watched", "board piece", ((2, 3), KING)),
    ("watched", "how_often", "board piece lot", ((2, 3), KING, LOT)),
    ("watched", "sees_often", "board piece lot many", ((2, 3), KING, LOT, 2)),
    ("watched", "least_often", "board piece many", ((2, 3), KING, 2)),
    ("great", "kings", "high wide", (2, 3)),
    ("great", "king_at", "high wide number", (2, 3, 0)),
    ("great", "king_of", "high wide cell", (2, 3, (0, 1))),
    ("great", "rooks", "high wide", (2, 3)),
    ("great", "rook_lots", "high wide many", (2, 3, 2)),
    ("great", "rooks_see", "high wide lot", (2, 3, LOT)),
    ("turns", "turned_board", "board turn", ((2, 3), 1)),
    ("turns", "turned_cell", "board turn cell", ((2, 3), 1, (0, 1))),
    ("turns", "turned_lot", "board turn lot", ((2, 3), 1, LOT)),
    ("turns", "turned_piece", "piece turn", (KING, 1)),
    ("forms", "own_turns", "board piece", ((2, 3), KING)),
    ("forms", "form", "board piece lot", ((2, 3), KING, LOT)),
    ("forms", "least_forms", "board piece", ((2, 3), KING)),
    ("forms", "least_form_counts", "board piece", ((2, 3), KING)),
    ("ways", "is_placing", "board kinds thing", ((2, 3), (KING, ROOK), ((0, 1, 1),))),
    ("ways", "seen_so", "board kinds placing", ((2, 3), (KING, ROOK), ((0, 1, 1),))),
    ("ways", "hidden", "board kinds placing", ((2, 3), (KING, ROOK), ((0, 1, 1),))),
    ("ways", "sight_so", "board kinds placing cell", ((2, 3), (KING, ROOK), ((0, 1, 1),), (0, 1))),
    ("texts", "lot_text", "board lot", ((2, 3), LOT)),
    ("texts", "piece_text", "piece", (KING,)),
    ("texts", "read_lot", "text", (".#./...",)),
    ("texts", "read_piece", "text", (TEXT,)),
]
# The refusal of each parameter; "thing" is answered whatever it is.
REFUSED_WITH = {
    "board": errors.NoBoard, "high": errors.NoBoard, "wide": errors.NoBoard, "piece": errors.NoPiece,
    "kinds": errors.NoPiece, "cell": errors.NoCell, "lot": errors.NoLot, "held": errors.NoLot,
    "many": errors.NoNumber, "most": errors.NoNumber, "number": errors.NoNumber, "prices": errors.NoPrices,
    "turn": errors.NoTurn, "placing": errors.NoPlacing, "name": errors.NoText, "text": errors.NoText, "thing": None,
}
WRONG = (None, True, False, [], {}, "no such thing", -7, 10 ** 29, (1, 2, 3, 4), [1, 1], ((), (), ((),)), 0.5, b"king")
# Functions that are told of small boards alone.
SMALL = """
least all_least first_least many_lots tally all_lean some_spread some_paper least_apart first_apart most_apart
all_most_apart least_watched first_watched least_often least_forms least_form_counts
""".split()


def functions():
    return [(getattr(importlib.import_module(f"seeall.{module}"), name), parameters.split(), right)
            for module, name, parameters, right in INTERFACE]


def lists_in(thing):
    """All lists in what was told, at whatever depth."""
    if not isinstance(thing, (list, tuple)):
        return []
    return ([thing] if isinstance(thing, list) else []) + [inner for part in thing for inner in lists_in(part)]


def some_questions():
    questions = [(board, piece) for board in small_boards() for piece in (KING, ROOK, KNIGHT)]
    questions += [(board, piece) for board in small_boards(8) for piece in PIECES + tuple(some_pieces("promise", 8))]
    return questions


class InterfaceTest(unittest.TestCase):
    def test_all_is_there_with_its_parameters(self):
        for call, parameters, right in functions():
            self.assertEqual(list(inspect.signature(call).parameters), parameters, call)
            self.assertEqual(call.__module__, inspect.getmodule(call).__name__)
            self.assertIs(refusal(call, *right), None, call)
        self.assertEqual(list(inspect.signature(Desk).parameters), [])
        self.assertEqual(list(inspect.signature(Desk.say).parameters)[1:], ["line"])

    def test_what_is_told_of_anything_is_a_truth(self):
        for call, parameters, right in functions():
            if parameters[-1] == "thing":
                for thing in WRONG + right:
                    self.assertIn(call(*right[:-1], thing), (True, False))
                    self.assertIs(call(*right[:-1], thing).__class__, bool)


class RefusalTest(unittest.TestCase):
    def test_each_wrong_thing_alone(self):
        for call, parameters, right in functions():
            for at, name in enumerate(parameters):
                for thing in WRONG:
                    due = REFUSED_WITH[name]
                    self.assertIs(refusal(call, *right[:at], thing, *right[at + 1:]), due, (call, name, thing))

    def test_what_stands_further_to_the_left_is_looked_at_first(self):
        for call, parameters, right in functions():
            for first, second in itertools.combinations(range(len(parameters)), 2):
                due = REFUSED_WITH[parameters[first]]
                for one, other in itertools.product(WRONG[::2], WRONG[1::2]):
                    told = list(right)
                    told[first], told[second] = one, other
                    self.assertIs(refusal(call, *told), due, (call, told))

    def test_all_wrong_at_once(self):
        for call, parameters, right in functions():
            for thing in WRONG:
                due = REFUSED_WITH[parameters[0]]
                self.assertIs(refusal(call, *[thing] * len(right)), due, (call, thing))

    def test_too_great_last(self):
        for call, parameters, right in functions():
            small = call.__name__ in SMALL
            if parameters[0] == "board" and (small or parameters[-1] == "piece"):
                for board in ((1, 8), (2, 7), (8, 8), (3, 4), (4, 4)):
                    many = board[0] * board[1]
                    due = errors.TooGreat if small and many > 12 else None
                    self.assertIs(refusal(call, board, *right[1:]), due, (call, board))
                    for at in range(1, len(right)):
                        told = [board, *right[1:]]
                        told[at] = None
                        self.assertIs(refusal(call, *told), REFUSED_WITH[parameters[at]], (call, told))

    def test_fields_of_too_great(self):
        for call, parameters, right in functions():
            if call.__name__ in SMALL:
                with self.assertRaises(errors.TooGreat) as caught:
                    call((2, 7), *right[1:])
                self.assertEqual((caught.exception.many, caught.exception.most), (14, 12))
                self.assertEqual(caught.exception.__class__.__bases__, (errors.SightError,))


class HandedInTest(unittest.TestCase):
    def test_nothing_handed_in_is_changed(self):
        for call, parameters, right in functions():
            kept = copy.deepcopy(right)
            call(*right)
            self.assertEqual(right, kept)
            for thing in ([[0, 0], [1]], {"a": [1]}, ([0], {1: [2]}), [KING, [KING]]):
                kept = copy.deepcopy(thing)
                for at in range(len(right)):
                    refusal(call, *right[:at], thing, *right[at + 1:])
                    self.assertEqual(thing, kept)

    def test_lists_are_the_askers_own(self):
        for call, parameters, right in functions():
            first, second = call(*right), call(*right)
            kept = copy.deepcopy(first)
            lists = lists_in(first) + lists_in(second)
            self.assertEqual(len({id(told) for told in lists}), len(lists), call)
            for told in lists_in(first):
                told.append("more")
                told.reverse()
            self.assertEqual(second, kept, call)
            for told in lists_in(second):
                told.clear()
            self.assertEqual(call(*right), kept, call)

    def test_what_was_told_may_be_handed_in_again(self):
        answers = [call(*right) for call, parameters, right in functions()]
        for call, parameters, right in functions():
            if parameters[-1] == "thing" or parameters[0] in ("text", "name"):
                for told in answers:
                    self.assertIn(refusal(call, *right[:-1], told), (None, errors.NoText), (call, told))
        for told in answers:
            self.assertIn(refusal(Desk().say, told), (None, errors.NoLine))

    def test_the_same_answer_whatever_is_asked_between(self):
        first = [call(*right) for call, parameters, right in functions()]
        again = [call(*right) for call, parameters, right in reversed(functions())]
        self.assertEqual(first, again[::-1])


class PromiseTest(unittest.TestCase):
    def test_what_is_told_to_see_all_does(self):
        for board, piece in some_questions():
            lots = all_least(board, piece) + all_lean(board, piece) + least_forms(board, piece)
            lots += [first_least(board, piece), filled(board, piece, ())]
            lots += [lot for lot in (first_apart(board, piece), first_watched(board, piece)) if lot is not None]
            lots.append(thinned(board, piece, tuple(plain_cells(board))))
            for lot in lots:
                self.assertIs(plain_sees_all(board, piece, lot), True, (board, piece, lot))
                self.assertIs(sees_all(board, piece, lot), True)
                self.assertGreaterEqual(len(lot), least(board, piece))

    def test_no_fewer_see_all_with_papers_that_show_it(self):
        for board, piece in some_questions():
            fewest = least(board, piece)
            for most in range(fewest):
                paper = some_paper(board, piece, most)
                self.assertIs(is_paper(board, piece, (), most, paper), True, (board, piece, most))
                self.assertEqual(many_lots(board, piece, most), 0)
            self.assertIs(some_paper(board, piece, fewest), None)
            self.assertIs(some_paper(board, piece, 64), None)
            self.assertGreater(many_lots(board, piece, fewest), 0)

    def test_no_paper_for_what_is_not_so(self):
        for board, piece in some_questions()[::3]:
            fewest = least(board, piece)
            for most in range(fewest):
                self.assertIs(is_paper(board, piece, (), fewest, some_paper(board, piece, most)), False)

    def test_counts_go_together(self):
        for board, piece in some_questions()[::2]:
            counts = tally(board, piece)
            self.assertEqual(sum(counts), len(plain_lots_that_see_all(board, piece)))
            self.assertEqual(sum(least_form_counts(board, piece)), counts[least(board, piece)])
            self.assertEqual(least_often(board, piece, 1), least(board, piece))

    def test_spreads_and_prices_bound_from_below(self):
        for board, piece in some_questions():
            fewest = least(board, piece)
            spread = some_spread(board, piece)
            self.assertIs(is_spread(board, piece, spread), True)
            self.assertLessEqual(len(spread), fewest)
            for prices in ([1] * len(plain_cells(board)), [1 if cell in spread else 0 for cell in plain_cells(board)],
                           [1000 if cell in spread else 3 for cell in plain_cells(board)]):
                self.assertLessEqual(bound(board, piece, tuple(prices)), fewest, (board, piece, prices))
            if spread:
                ones = tuple(1 if cell in spread else 0 for cell in plain_cells(board))
                self.assertEqual((cap(board, piece, ones), bound(board, piece, ones)), (1, len(spread)))

    def test_apart_and_watched(self):
        for board, piece in some_questions():
            self.assertIs(is_apart(board, piece, taken(board, piece)), True)
            for lot in all_most_apart(board, piece)[:10]:
                self.assertIs(is_apart(board, piece, lot), True)
                self.assertEqual(len(lot), most_apart(board, piece))
            if is_two_way(piece):
                self.assertIs(sees_all(board, piece, taken(board, piece)), True)
                self.assertIsNot(least_apart(board, piece), None)
            watched = first_watched(board, piece)
            if watched is not None:
                self.assertIs(is_watched(board, piece, watched), True)
                self.assertGreaterEqual(least_watched(board, piece), least(board, piece))

    def test_kings_and_rooks(self):
        for board in all_boards():
            lot = tuple(sorted(king_at(*board, number) for number in range(kings(*board))))
            self.assertIs(sees_all(board, KING, lot), True, board)
            self.assertIs(is_spread(board, KING, tuple(
                (row, column) for row in range(0, board[0], 3) for column in range(0, board[1], 3))), True)
            for cell in plain_cells(board):
                row, column = king_at(*board, king_of(*board, cell))
                self.assertLessEqual(max(abs(row - cell[0]), abs(column - cell[1])), 1)
            short = tuple((k, k) for k in range(rooks(*board)))
            self.assertIs(rooks_see(*board, short) and sees_all(board, ROOK, short), True)
            self.assertIs(rooks_see(*board, short[:-1]) or sees_all(board, ROOK, short[:-1]), False)
            self.assertEqual(rook_lots(*board, rooks(*board) - 1), 0)
        for board in small_boards():
            self.assertEqual((kings(*board), rooks(*board)), (least(board, KING), least(board, ROOK)))
            self.assertEqual([rook_lots(*board, many) for many in range(len(tally(board, ROOK)))], tally(board, ROOK))

    def test_turned_all_stays_as_it_is(self):
        for board, piece in itertools.product(((1, 4), (2, 3), (3, 3), (2, 5)), (KNIGHT, ONE_WAY, DOWNWARD, BISHOP)):
            for turn in range(8):
                other = (turned_board(board, turn), turned_piece(piece, turn))
                for call in (least, tally, least_apart, most_apart, least_watched):
                    self.assertEqual(call(*other), call(board, piece), (call, board, piece, turn))
                for call in (all_least, all_lean, all_most_apart):
                    due = sorted(turned_lot(board, turn, lot) for lot in call(board, piece))
                    self.assertEqual(call(*other), due, (call, board, piece, turn))
                self.assertEqual(sorted(least_form_counts(*other)), sorted(least_form_counts(board, piece)))
                self.assertEqual(len(some_spread(*other)), len(some_spread(board, piece)))
                for turn_of_both in own_turns(board, piece):
                    for lot in all_least(board, piece)[:5]:
                        alike = turned_lot(board, turn_of_both, lot)
                        self.assertEqual(form(board, piece, alike), form(board, piece, lot))

    def test_pieces_of_one_kind_hide_nothing(self):
        for piece in PIECES:
            for board in ((1, 8), (4, 5), (8, 8)):
                for every in (1, 2, 3, 5, 7):
                    lot = tuple(plain_cells(board)[::every])
                    placing = tuple((row, column, 0) for row, column in lot)
                    self.assertEqual(hidden(board, (piece,), placing), ())
                    self.assertEqual(len(seen_so(board, (piece,), placing)) == board[0] * board[1],
                                     sees_all(board, piece, lot))

    def test_texts_lead_back(self):
        for board, piece in some_questions():
            for lot in (first_least(board, piece), filled(board, piece, ()), ()):
                self.assertEqual(read_lot(lot_text(board, lot)), (board, lot))
            self.assertEqual(read_piece(piece_text(contrary(piece))), contrary(piece))

    def test_a_desk_answers_as_the_functions_do(self):
        names = dict(zip(("king", "queen", "rook", "bishop", "knight"), NAMED))
        for board, name in itertools.product(((1, 1), (2, 3), (3, 4), (5, 5), (8, 8)), names):
            piece = names[name]
            desk = Desk()
            for line in (f"board {board[0]} {board[1]}", f"piece {name}", "fill"):
                self.assertEqual(desk.say(line), "ok")
            lot = filled(board, piece, ())
            self.assertEqual(desk.say("lot"), lot_text(board, lot))
            self.assertEqual(desk.say("lean"), "yes" if is_lean(board, piece, lot) else "no")
            self.assertEqual(desk.say("thin"), "ok")
            self.assertEqual(read_lot(desk.say("lot")), (board, thinned(board, piece, lot)))


if __name__ == "__main__":
    unittest.main()
