import unittest

from seeall.errors import NoLot, TooGreat
from seeall.fewest import all_least
from seeall.forms import form, least_form_counts, least_forms, own_turns
from seeall.turns import turned_lot
from tests.plain import (
    BISHOP, DOWNWARD, EMPTY, KING, KNIGHT, NAMED, ONE_WAY, PIECES, ROOK, all_boards, great_boards, plain_cells,
    plain_lots, small_boards, some_lots, some_pieces,
)
from tests.test_turns import plain_turned_lot, plain_turned_piece
from tests.things import (
    NO_BOARDS, NO_LOTS, NO_PIECES, board_and_piece, changed, misordered, no_lots, not_refused, refusal,
)

SMALL = (least_forms, least_form_counts)
# Pieces that some turns alone leave as they are: none but 0, mirrored, by halves, by quarters, by what is aslant.
CROOK = (((1, 2),), ())
SIDEWAYS = ((), ((0, -1), (0, 1)))
RIGHTWARD = (((0, 1),), ())
ASLANT = ((), ((-1, -1), (1, 1)))
ONE_CORNER = (((1, 1),), ())
WHEEL = (((-2, 1), (-1, -2), (1, 2), (2, -1)), ())
BACK_AND_FORTH = (((-1, -2), (1, 2)), ())
SOME = (CROOK, SIDEWAYS, RIGHTWARD, ASLANT, ONE_CORNER, WHEEL, BACK_AND_FORTH)
BOARDS = ((1, 1), (1, 4), (2, 3), (3, 2), (3, 3), (5, 5), (8, 8), (8, 1))


def plain_own_turns(board, piece):
    turns = range(8) if board[0] == board[1] else (0, 2, 4, 6)
    return tuple(turn for turn in turns if plain_turned_piece(piece, turn) == piece)


def plain_form(board, piece, lot):
    return min(plain_turned_lot(board, turn, lot) for turn in plain_own_turns(board, piece))


def some_questions():
    questions = [(board, piece) for board in small_boards() for piece in (KING, ROOK, CROOK)]
    questions += [(board, piece) for board in small_boards(9) for piece in PIECES + SOME]
    questions += [(board, piece) for board in ((3, 4), (6, 2)) for piece in (KNIGHT, BISHOP, EMPTY, DOWNWARD) + SOME]
    return questions


class OwnTurnsTest(unittest.TestCase):
    def test_known_turns(self):
        self.assertEqual(own_turns((3, 3), KING), (0, 1, 2, 3, 4, 5, 6, 7))
        self.assertEqual(own_turns((3, 4), KING), (0, 2, 4, 6))
        self.assertEqual(own_turns((3, 3), CROOK), (0,))
        self.assertEqual(own_turns((3, 4), CROOK), (0,))
        self.assertEqual(own_turns((3, 3), DOWNWARD), (0, 4))
        self.assertEqual(own_turns((3, 3), RIGHTWARD), (0, 6))
        self.assertEqual(own_turns((3, 3), SIDEWAYS), (0, 2, 4, 6))
        self.assertEqual(own_turns((3, 3), ASLANT), (0, 2, 5, 7))
        self.assertEqual(own_turns((3, 2), ASLANT), (0, 2))
        self.assertEqual(own_turns((3, 3), ONE_CORNER), (0, 7))
        self.assertEqual(own_turns((2, 3), ONE_CORNER), (0,))
        self.assertEqual(own_turns((3, 3), WHEEL), (0, 1, 2, 3))
        self.assertEqual(own_turns((3, 2), WHEEL), (0, 2))
        self.assertEqual(own_turns((8, 8), BACK_AND_FORTH), (0, 2))
        self.assertEqual(own_turns((1, 1), EMPTY), (0, 1, 2, 3, 4, 5, 6, 7))

    def test_one_by_one(self):
        for board in all_boards():
            for piece in PIECES + SOME + tuple(some_pieces("own", 10)):
                told = own_turns(board, piece)
                self.assertIs(told.__class__, tuple)
                self.assertEqual(told, plain_own_turns(board, piece), (board, piece))
                self.assertEqual({turn.__class__ for turn in told}, {int})


class FormTest(unittest.TestCase):
    def test_known_forms(self):
        self.assertEqual(form((3, 3), KING, ()), ())
        self.assertEqual(form((3, 3), KING, ((2, 2),)), ((0, 0),))
        self.assertEqual(form((3, 3), KING, ((2, 1),)), ((0, 1),))
        self.assertEqual(form((3, 3), DOWNWARD, ((2, 1),)), ((2, 1),))
        self.assertEqual(form((3, 3), DOWNWARD, ((1, 2),)), ((1, 0),))
        self.assertEqual(form((3, 3), CROOK, ((2, 2),)), ((2, 2),))
        self.assertEqual(form((3, 3), WHEEL, ((0, 1), (0, 2))), ((0, 0), (1, 0)))
        self.assertEqual(form((3, 3), KING, ((0, 1), (0, 2))), ((0, 0), (0, 1)))
        self.assertEqual(form((2, 3), KING, ((0, 2), (1, 0))), ((0, 0), (1, 2)))
        self.assertEqual(form((1, 4), KING, ((0, 1), (0, 3))), ((0, 0), (0, 2)))

    def test_one_by_one(self):
        for board in BOARDS:
            for piece in NAMED[:1] + SOME + (DOWNWARD, ONE_WAY):
                for lot in some_lots(board, "form", 12):
                    told = form(board, piece, lot)
                    self.assertIs(told.__class__, tuple)
                    self.assertEqual(told, plain_form(board, piece, lot), (board, piece, lot))

    def test_alike_just_where_the_forms_are_one(self):
        for board in ((2, 2), (2, 3), (1, 5)):
            for piece in (KING,) + SOME:
                for lot in plain_lots(board):
                    alike = [turned_lot(board, turn, lot) for turn in own_turns(board, piece)]
                    due = form(board, piece, lot)
                    self.assertIn(due, alike)
                    self.assertEqual({form(board, piece, other) for other in alike}, {due})
                    self.assertEqual(min(alike), due)

    def test_a_form_is_its_own_form(self):
        for board in BOARDS:
            for lot in some_lots(board, "own", 8):
                told = form(board, KNIGHT, lot)
                self.assertEqual(form(board, KNIGHT, told), told)
                self.assertLessEqual(told, lot)


class LeastFormsTest(unittest.TestCase):
    def test_known_forms(self):
        self.assertEqual(least_forms((1, 1), KING), [((0, 0),)])
        self.assertEqual(least_form_counts((1, 1), KING), [1])
        self.assertEqual(least_forms((1, 2), KING), [((0, 0),)])
        self.assertEqual(least_form_counts((1, 2), KING), [2])
        self.assertEqual(least_forms((2, 2), ROOK), [((0, 0), (0, 1)), ((0, 0), (1, 1))])
        self.assertEqual(least_form_counts((2, 2), ROOK), [4, 2])
        self.assertEqual(least_forms((2, 2), ((), ((-1, 0), (1, 0)))), [((0, 0), (0, 1)), ((0, 0), (1, 1))])
        self.assertEqual(least_form_counts((2, 2), ((), ((-1, 0), (1, 0)))), [2, 2])
        self.assertEqual(least_forms((2, 2), EMPTY), [tuple(plain_cells((2, 2)))])

    def test_one_by_one(self):
        for board, piece in some_questions():
            forms = [plain_form(board, piece, lot) for lot in all_least(board, piece)]
            due = sorted(set(forms))
            told, counts = least_forms(board, piece), least_form_counts(board, piece)
            self.assertEqual((told.__class__, counts.__class__), (list, list))
            self.assertEqual(told, due, (board, piece))
            self.assertEqual(counts, [forms.count(shape) for shape in due], (board, piece))
            self.assertEqual({count.__class__ for count in counts}, {int})

    def test_what_holds_of_all(self):
        for board, piece in some_questions():
            lots = all_least(board, piece)
            counts = least_form_counts(board, piece)
            self.assertEqual(sum(counts), len(lots))
            for count in counts:
                self.assertEqual(len(own_turns(board, piece)) % count, 0)
            for shape in least_forms(board, piece):
                self.assertIn(shape, lots)


class RefusalTest(unittest.TestCase):
    def test_more_than_twelve_cells(self):
        for board in great_boards():
            for call in SMALL:
                with self.assertRaises(TooGreat) as caught:
                    call(board, EMPTY)
                self.assertEqual((caught.exception.many, caught.exception.most), (board[0] * board[1], 12))
            self.assertIs(refusal(own_turns, board, KING), None)
            self.assertIs(refusal(form, board, KING, ()), None)
        for board in small_boards():
            for call in SMALL:
                self.assertIs(refusal(call, board, KING), None, (call, board))

    def test_whatever_is_no_lot(self):
        for board in ((1, 1), (2, 3), (8, 8)):
            for at, thing in enumerate(no_lots(board)):
                self.assertIs(refusal(form, board, KING, thing), NoLot, (board, at))

    def test_the_order_of_refusals(self):
        for call in SMALL:
            self.assertEqual(misordered(call, board_and_piece((2, 3), KING)), [])
            self.assertEqual(misordered(call, board_and_piece((8, 8), KING), TooGreat), [])
        self.assertEqual(misordered(own_turns, board_and_piece((8, 8), KING)), [])
        lots = [(((0, 1), (1, 2)), NoLot, NO_LOTS)]
        self.assertEqual(misordered(form, board_and_piece((2, 3), KING) + lots), [])

    def test_refusals_are_sight_errors(self):
        asked = [(board, KING) for board in NO_BOARDS] + [((1, 1), piece) for piece in NO_PIECES]
        for call in SMALL:
            self.assertEqual(not_refused(call, asked + [((8, 8), KING)]), [])
        self.assertEqual(not_refused(own_turns, asked), [])
        self.assertEqual(not_refused(form, [(*told, ()) for told in asked] + [((1, 1), KING, None)]), [])


class HandedInTest(unittest.TestCase):
    def test_nothing_handed_in_is_changed(self):
        for call in SMALL + (own_turns,):
            self.assertIs(changed(call, (1, 2), KING), False)
        self.assertIs(changed(form, (2, 3), KING, ()), False)

    def test_what_was_told_is_the_askers_own(self):
        for board, piece in some_questions()[::17]:
            for call in SMALL:
                first = call(board, piece)
                kept = list(first)
                second = call(board, piece)
                self.assertIsNot(first, second)
                first.append("more")
                del first[0]
                self.assertEqual(second, kept)
                second.clear()
                self.assertEqual(call(board, piece), kept)

    def test_the_same_answer_again(self):
        questions = some_questions()[::9]
        first = [[call(*told) for call in SMALL + (own_turns,)] for told in questions]
        again = [[call(*told) for call in SMALL + (own_turns,)] for told in reversed(questions)]
        self.assertEqual(first, again[::-1])


if __name__ == "__main__":
    unittest.main()
