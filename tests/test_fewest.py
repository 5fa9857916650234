import unittest

from seeall.errors import NoNumber, TooGreat
from seeall.fewest import all_lean, all_least, first_least, least, many_lots, tally
from tests.plain import (
    BISHOP, DOWNWARD, EMPTY, KING, KNIGHT, NAMED, PIECES, QUEEN, ROOK, all_boards, great_boards, plain_is_lean,
    plain_lots_that_see_all, small_boards, some_pieces,
)
from tests.things import NO_BOARDS, NO_PIECES, board_and_piece, changed, misordered, no_wholes, not_refused, refusal

CALLS = (least, all_least, first_least, tally, all_lean)


def some_questions():
    """Every small board, with the named pieces; boards of few cells with others too."""
    questions = [(board, piece) for board in small_boards() for piece in NAMED]
    questions += [(board, piece) for board in small_boards(9) for piece in PIECES + tuple(some_pieces("few", 12))]
    questions += [(board, piece) for board in ((3, 4), (2, 6), (6, 2)) for piece in PIECES[5:]]
    return questions


def held_against():
    """Boards, pieces, and all lots that see all cells, gone through one by one."""
    return [(board, piece, plain_lots_that_see_all(board, piece)) for board, piece in some_questions()]


class FewestTest(unittest.TestCase):
    @classmethod
    def setUpClass(cls):
        cls.held = held_against()

    def test_known_numbers(self):
        self.assertEqual(least((1, 1), KING), 1)
        self.assertEqual(least((3, 3), KING), 1)
        self.assertEqual(least((3, 4), KING), 2)
        self.assertEqual(least((3, 4), ROOK), 3)
        self.assertEqual(least((3, 4), QUEEN), 2)
        self.assertEqual(least((3, 4), BISHOP), 4)
        self.assertEqual(least((3, 4), KNIGHT), 4)
        self.assertEqual(least((3, 4), EMPTY), 12)
        self.assertEqual(least((4, 3), DOWNWARD), 3)
        self.assertEqual(least((3, 4), DOWNWARD), 4)

    def test_known_lots(self):
        self.assertEqual(all_least((1, 1), EMPTY), [((0, 0),)])
        self.assertEqual(all_least((1, 2), KING), [((0, 0),), ((0, 1),)])
        self.assertEqual(all_least((3, 3), KING), [((1, 1),)])
        self.assertEqual(first_least((1, 2), KING), ((0, 0),))
        self.assertEqual(first_least((1, 3), KING), ((0, 1),))
        self.assertEqual(all_least((2, 2), ROOK), [
            ((0, 0), (0, 1)), ((0, 0), (1, 0)), ((0, 0), (1, 1)), ((0, 1), (1, 0)), ((0, 1), (1, 1)), ((1, 0), (1, 1))])
        self.assertEqual(tally((1, 1), KING), [0, 1])
        self.assertEqual(tally((2, 2), ROOK), [0, 0, 6, 4, 1])
        self.assertEqual(tally((1, 3), EMPTY), [0, 0, 0, 1])
        self.assertEqual(all_lean((1, 3), KING), [((0, 0), (0, 2)), ((0, 1),)])
        self.assertEqual(all_lean((1, 1), QUEEN), [((0, 0),)])

    def test_the_least(self):
        for board, piece, lots in self.held:
            told = least(board, piece)
            self.assertIs(told.__class__, int)
            self.assertEqual(told, min(len(lot) for lot in lots), (board, piece))

    def test_all_lots_of_the_least(self):
        for board, piece, lots in self.held:
            fewest = min(len(lot) for lot in lots)
            due = [lot for lot in lots if len(lot) == fewest]
            told = all_least(board, piece)
            self.assertIs(told.__class__, list)
            self.assertEqual(told, due, (board, piece))
            self.assertEqual(first_least(board, piece), due[0], (board, piece))

    def test_how_many_lots(self):
        for board, piece, lots in self.held:
            counts = [len([lot for lot in lots if len(lot) == many]) for many in range(board[0] * board[1] + 1)]
            told = tally(board, piece)
            self.assertIs(told.__class__, list)
            self.assertEqual(told, counts, (board, piece))
            self.assertEqual({count.__class__ for count in told}, {int})

    def test_how_many_lots_of_each_number(self):
        for board, piece, lots in self.held[::5]:
            for many in range(board[0] * board[1] + 1):
                told = many_lots(board, piece, many)
                self.assertIs(told.__class__, int)
                self.assertEqual(told, len([lot for lot in lots if len(lot) == many]), (board, piece, many))

    def test_all_lean_lots(self):
        for board, piece, lots in self.held:
            if board[0] * board[1] <= 9 or piece in (KING, KNIGHT):
                told = all_lean(board, piece)
                self.assertIs(told.__class__, list)
                self.assertEqual(told, [lot for lot in lots if plain_is_lean(board, piece, lot)], (board, piece))

    def test_lots_of_the_least_are_lean(self):
        for board, piece, lots in self.held:
            lean = all_lean(board, piece)
            for lot in all_least(board, piece):
                self.assertIn(lot, lean)


class RefusalTest(unittest.TestCase):
    def test_more_than_twelve_cells(self):
        for board in great_boards():
            for call in CALLS:
                with self.assertRaises(TooGreat) as caught:
                    call(board, EMPTY)
                self.assertEqual((caught.exception.many, caught.exception.most), (board[0] * board[1], 12))
            for many in (0, 1, 12, 13, board[0] * board[1]):
                with self.assertRaises(TooGreat) as caught:
                    many_lots(board, KING, many)
                self.assertEqual((caught.exception.many, caught.exception.most), (board[0] * board[1], 12))

    def test_at_most_twelve_cells(self):
        for board in small_boards():
            for call in CALLS:
                self.assertIs(refusal(call, board, KING), None, (call, board))
        self.assertEqual(sorted(small_boards() + great_boards()), all_boards())

    def test_no_numbers(self):
        for board in ((1, 1), (2, 3), (3, 4), (4, 4), (8, 8)):
            for at, thing in enumerate(no_wholes(0, board[0] * board[1])):
                self.assertIs(refusal(many_lots, board, KING, thing), NoNumber, (board, at))

    def test_the_order_of_refusals(self):
        for call in CALLS:
            self.assertEqual(misordered(call, board_and_piece((2, 3), KING)), [])
            self.assertEqual(misordered(call, board_and_piece((8, 8), KING), TooGreat), [])
        wrong = [-1, 65, 66, True, None, "1", [1], (1,), {}]
        self.assertEqual(misordered(many_lots, board_and_piece((8, 8), KING) + [(64, NoNumber, wrong)], TooGreat), [])
        self.assertEqual(misordered(many_lots, board_and_piece((2, 3), KING) + [(6, NoNumber, wrong + [7])]), [])

    def test_a_great_board_goes_behind_a_wrong_piece(self):
        for call in CALLS:
            for piece in NO_PIECES:
                self.assertEqual(refusal(call, (8, 8), piece).__name__, "NoPiece")
            for board in NO_BOARDS:
                self.assertEqual(refusal(call, board, None).__name__, "NoBoard")

    def test_refusals_are_sight_errors(self):
        for call in CALLS:
            self.assertEqual(not_refused(call, [(None, KING), ((1, 1), None), ((8, 8), KING)]), [])
        asked = [(None, KING, 1), ((1, 1), None, 1), ((1, 1), KING, 2), ((8, 8), KING, 1)]
        self.assertEqual(not_refused(many_lots, asked), [])


class HandedInTest(unittest.TestCase):
    def test_what_was_told_is_the_askers_own(self):
        for board, piece in some_questions()[::11]:
            for call in (all_least, tally, all_lean):
                first = call(board, piece)
                kept = list(first)
                second = call(board, piece)
                self.assertIsNot(first, second)
                first.reverse()
                first.append("more")
                del first[0]
                self.assertEqual(second, kept)
                second.clear()
                self.assertEqual(call(board, piece), kept)

    def test_the_same_answer_whatever_is_asked_between(self):
        questions = some_questions()[::9]
        first = [[call(*told) for call in CALLS] for told in questions]
        refusal(least, (8, 8), KING)
        again = [[call(*told) for call in reversed(CALLS)] for told in reversed(questions)]
        self.assertEqual(first, [answers[::-1] for answers in reversed(again)])

    def test_nothing_handed_in_is_changed(self):
        for call in CALLS:
            self.assertIs(changed(call, (1, 2), KING), False)
        self.assertIs(changed(many_lots, (1, 2), KING, 1), False)


if __name__ == "__main__":
    unittest.main()
