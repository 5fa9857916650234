import unittest

from seeall.apart import all_most_apart, first_apart, is_apart, least_apart, most_apart, taken
from seeall.errors import TooGreat
from seeall.fewest import least
from seeall.lots import sees_all
from tests.plain import (
    BISHOP, DOWNWARD, EMPTY, KING, KNIGHT, NAMED, ONE_WAY, PIECES, QUEEN, ROOK, all_boards, great_boards, plain_cells,
    plain_first_fewest, plain_is_apart, plain_is_lot, plain_lots, plain_sees, plain_sees_all, small_boards, some_lots,
    some_pieces,
)
from tests.things import (
    NO_BOARDS, NO_PIECES, board_and_piece, changed, misordered, nested, no_lots, not_refused, refusal, told_things,
)

SMALL = (least_apart, first_apart, most_apart, all_most_apart)
TWO_WAY = NAMED + (EMPTY, (((-3, -3), (3, 3)), ()), (((-1, 0), (1, 0)), ((0, -2), (0, 2))))
RIGHT_LEAP = (((0, 1),), ())
CIRCLE = (((-1, 0), (0, 1)), ((1, -1),))


def some_questions():
    questions = [(board, piece) for board in small_boards() for piece in (KING, ROOK, KNIGHT, DOWNWARD)]
    questions += [(board, piece) for board in small_boards(8) for piece in PIECES + tuple(some_pieces("apart", 12))]
    questions += [(board, piece) for board in ((3, 4), (6, 2)) for piece in PIECES[5:] + (CIRCLE,)]
    return questions


def plain_taken(board, piece):
    lot = ()
    for cell in plain_cells(board):
        if plain_is_apart(board, piece, (*lot, cell)):
            lot = (*lot, cell)
    return lot


class IsApartTest(unittest.TestCase):
    def test_known_lots(self):
        self.assertIs(is_apart((1, 1), KING, ((0, 0),)), True)
        self.assertIs(is_apart((1, 3), KING, ((0, 0), (0, 2))), True)
        self.assertIs(is_apart((1, 3), KING, ((0, 0), (0, 1))), False)
        self.assertIs(is_apart((3, 3), ROOK, ((0, 0), (1, 1), (2, 2))), True)
        self.assertIs(is_apart((3, 3), ROOK, ((0, 0), (0, 2))), False)
        self.assertIs(is_apart((3, 3), QUEEN, ((0, 0), (1, 2))), True)
        self.assertIs(is_apart((3, 3), QUEEN, ((0, 0), (2, 2))), False)
        self.assertIs(is_apart((8, 8), KNIGHT, tuple(cell for cell in plain_cells((8, 8)) if sum(cell) & 1)), True)
        self.assertIs(is_apart((8, 8), EMPTY, tuple(plain_cells((8, 8)))), True)

    def test_pieces_that_are_not_two_way(self):
        for lot in (((0, 0), (0, 1)), ((0, 1), (0, 2))):
            self.assertIs(is_apart((1, 3), RIGHT_LEAP, lot), False)
            self.assertIs(is_apart((1, 3), (((0, -1),), ()), lot), False)
        self.assertIs(is_apart((1, 3), RIGHT_LEAP, ((0, 0), (0, 2))), True)
        self.assertIs(is_apart((3, 2), DOWNWARD, ((0, 0), (2, 0))), False)
        self.assertIs(is_apart((3, 2), ((), ((-1, 0),)), ((0, 0), (2, 0))), False)
        self.assertIs(is_apart((3, 2), DOWNWARD, ((0, 0), (2, 1))), True)

    def test_none_and_single_cells(self):
        for board in all_boards():
            for piece in (QUEEN, EMPTY, ONE_WAY):
                for lot in [()] + [(cell,) for cell in plain_cells(board)]:
                    self.assertIs(is_apart(board, piece, lot), True, (board, lot))

    def test_all_lots_of_a_board(self):
        for board in ((1, 1), (2, 3), (1, 7), (3, 3)):
            for piece in PIECES:
                for lot in plain_lots(board):
                    self.assertIs(is_apart(board, piece, lot), plain_is_apart(board, piece, lot), (board, piece, lot))

    def test_one_by_one(self):
        for board in ((8, 8), (4, 7), (7, 2)):
            cells = plain_cells(board)
            for piece in PIECES:
                couples = [(cells[at], cells[further]) for at in (0, 3, 9) for further in range(at + 1, len(cells), 2)]
                for lot in some_lots(board, "apart", 4) + couples:
                    self.assertIs(is_apart(board, piece, lot), plain_is_apart(board, piece, lot), (board, piece, lot))

    def test_whatever_is_no_lot(self):
        for board in ((1, 1), (2, 3), (8, 8)):
            for at, thing in enumerate(no_lots(board)):
                self.assertIs(is_apart(board, EMPTY, thing), False, (board, at))
        self.assertIs(is_apart((8, 8), EMPTY, nested(3000, lambda thing: (thing,), (0, 0))), False)

    def test_anything_one_by_one(self):
        for board in ((1, 1), (2, 2), (8, 8)):
            for at, thing in enumerate(told_things()):
                due = plain_is_lot(board, thing) and plain_is_apart(board, KING, thing)
                self.assertIs(is_apart(board, KING, thing), due, (board, at))


class TakenTest(unittest.TestCase):
    def test_known_lots(self):
        self.assertEqual(taken((1, 1), KING), ((0, 0),))
        self.assertEqual(taken((1, 4), KING), ((0, 0), (0, 2)))
        self.assertEqual(taken((3, 3), ROOK), ((0, 0), (1, 1), (2, 2)))
        self.assertEqual(taken((3, 3), QUEEN), ((0, 0), (1, 2)))
        self.assertEqual(taken((2, 3), DOWNWARD), ((0, 0), (0, 1), (0, 2)))
        self.assertEqual(taken((2, 3), ((), ((-1, 0),))), ((0, 0), (0, 1), (0, 2)))
        self.assertEqual(taken((1, 4), RIGHT_LEAP), ((0, 0), (0, 2)))
        self.assertEqual(taken((1, 4), (((0, -1),), ())), ((0, 0), (0, 2)))
        self.assertEqual(taken((8, 8), EMPTY), tuple(plain_cells((8, 8))))

    def test_every_board_one_by_one(self):
        for board in all_boards():
            for piece in PIECES:
                told = taken(board, piece)
                self.assertIs(told.__class__, tuple)
                self.assertEqual(told, plain_taken(board, piece), (board, piece))
                self.assertIs(is_apart(board, piece, told), True)

    def test_other_pieces_one_by_one(self):
        for piece in some_pieces("taken", 100):
            for board in ((3, 5), (8, 8)):
                self.assertEqual(taken(board, piece), plain_taken(board, piece), (board, piece))

    def test_of_a_two_way_piece_it_sees_all(self):
        for board in all_boards():
            for piece in TWO_WAY:
                self.assertIs(sees_all(board, piece, taken(board, piece)), True, (board, piece))


class SmallTest(unittest.TestCase):
    @classmethod
    def setUpClass(cls):
        cls.held = []
        for board, piece in some_questions():
            lots = [lot for lot in plain_lots(board) if plain_is_apart(board, piece, lot)]
            cls.held.append((board, piece, lots))

    def test_known_numbers(self):
        self.assertEqual(least_apart((1, 1), KING), 1)
        self.assertEqual(least_apart((3, 4), KING), 2)
        self.assertEqual(least_apart((3, 4), ROOK), 3)
        self.assertEqual(least_apart((3, 4), BISHOP), 4)
        self.assertEqual(least_apart((3, 4), EMPTY), 12)
        self.assertEqual(most_apart((1, 1), KING), 1)
        self.assertEqual(most_apart((3, 4), KING), 4)
        self.assertEqual(most_apart((3, 4), ROOK), 3)
        self.assertEqual(most_apart((2, 2), KNIGHT), 4)
        self.assertEqual(most_apart((3, 4), EMPTY), 12)

    def test_known_lots(self):
        self.assertEqual(first_apart((1, 3), KING), ((0, 1),))
        self.assertEqual(first_apart((2, 2), ROOK), ((0, 0), (1, 1)))
        self.assertEqual(all_most_apart((2, 2), ROOK), [((0, 0), (1, 1)), ((0, 1), (1, 0))])
        self.assertEqual(all_most_apart((1, 3), KING), [((0, 0), (0, 2))])
        self.assertEqual(all_most_apart((1, 2), KING), [((0, 0),), ((0, 1),)])
        self.assertEqual(all_most_apart((2, 1), EMPTY), [((0, 0), (1, 0))])

    def test_none_where_there_is_none(self):
        wheel = (((-1, 0), (0, 1), (1, -1)), ())
        self.assertIs(least_apart((2, 2), wheel), None)
        self.assertIs(first_apart((2, 2), wheel), None)
        self.assertEqual(most_apart((2, 2), wheel), 2)
        for board, piece, lots in self.held:
            if not any(plain_sees_all(board, piece, lot) for lot in lots):
                self.assertIs(least_apart(board, piece), None, (board, piece))
                self.assertIs(first_apart(board, piece), None, (board, piece))

    def test_the_fewest(self):
        for board, piece, lots in self.held:
            due = plain_first_fewest([lot for lot in lots if plain_sees_all(board, piece, lot)])
            self.assertEqual(first_apart(board, piece), due, (board, piece))
            told = least_apart(board, piece)
            self.assertEqual(told, due if due is None else len(due), (board, piece))
            self.assertIn(told.__class__, (int, None.__class__))

    def test_the_most(self):
        for board, piece, lots in self.held:
            most = max(len(lot) for lot in lots)
            told = all_most_apart(board, piece)
            self.assertIs(told.__class__, list)
            self.assertEqual(told, [lot for lot in lots if len(lot) == most], (board, piece))
            self.assertEqual(most_apart(board, piece), most, (board, piece))
            self.assertIs(most_apart(board, piece).__class__, int)

    def test_what_holds_of_all(self):
        for board, piece, lots in self.held:
            first = first_apart(board, piece)
            if first is not None:
                self.assertIs(is_apart(board, piece, first) and sees_all(board, piece, first), True)
                self.assertGreaterEqual(len(first), least(board, piece))
                self.assertLessEqual(len(first), most_apart(board, piece))
            self.assertLessEqual(len(taken(board, piece)), most_apart(board, piece))

    def test_two_way_pieces_always_have_one(self):
        for board in small_boards():
            for piece in TWO_WAY:
                self.assertIsNot(least_apart(board, piece), None, (board, piece))
                for lot in all_most_apart(board, piece)[:20]:
                    self.assertIs(sees_all(board, piece, lot), True, (board, piece, lot))

    def test_what_cannot_be_made_greater_sees_all(self):
        for board, piece, lots in self.held:
            if piece in TWO_WAY:
                greater = {tuple(cell for cell in lot if cell != left) for lot in lots for left in lot}
                for lot in lots:
                    if lot not in greater:
                        self.assertIs(sees_all(board, piece, lot), True, (board, piece, lot))

    def test_sights_on_which_the_tests_rest(self):
        self.assertIs(plain_sees(RIGHT_LEAP, (0, 0), (0, 1)), True)
        self.assertIs(plain_sees(RIGHT_LEAP, (0, 1), (0, 0)), False)


class RefusalTest(unittest.TestCase):
    def test_more_than_twelve_cells(self):
        for board in great_boards():
            for call in SMALL:
                with self.assertRaises(TooGreat) as caught:
                    call(board, EMPTY)
                self.assertEqual((caught.exception.many, caught.exception.most), (board[0] * board[1], 12))
            self.assertIs(refusal(taken, board, KING), None)
        for board in small_boards():
            for call in SMALL:
                self.assertIs(refusal(call, board, KING), None, (call, board))

    def test_the_order_of_refusals(self):
        for call in SMALL:
            self.assertEqual(misordered(call, board_and_piece((2, 3), KING)), [])
            self.assertEqual(misordered(call, board_and_piece((8, 8), KING), TooGreat), [])
        self.assertEqual(misordered(taken, board_and_piece((8, 8), KING)), [])
        for thing in ((), ((0, 0),), None, [], "no lot", ((9, 9),)):
            places = board_and_piece((2, 3), KING) + [(thing, None, [])]
            self.assertEqual(misordered(is_apart, places), [])

    def test_refusals_are_sight_errors(self):
        asked = [(board, KING) for board in NO_BOARDS] + [((1, 1), piece) for piece in NO_PIECES]
        for call in SMALL:
            self.assertEqual(not_refused(call, asked + [((8, 8), KING)]), [])
        self.assertEqual(not_refused(taken, asked), [])
        self.assertEqual(not_refused(is_apart, [(*told, ()) for told in asked]), [])


class HandedInTest(unittest.TestCase):
    def test_nothing_handed_in_is_changed(self):
        self.assertIs(changed(is_apart, (3, 3), KING, ()), False)
        for call in SMALL + (taken,):
            self.assertIs(changed(call, (1, 2), KING), False)

    def test_what_was_told_is_the_askers_own(self):
        for board, piece in some_questions()[::11]:
            first = all_most_apart(board, piece)
            kept = list(first)
            second = all_most_apart(board, piece)
            self.assertIsNot(first, second)
            first.append("more")
            del first[0]
            self.assertEqual(second, kept)
            second.clear()
            self.assertEqual(all_most_apart(board, piece), kept)

    def test_the_same_answer_again(self):
        questions = some_questions()[::7]
        first = [[call(*told) for call in SMALL + (taken,)] for told in questions]
        again = [[call(*told) for call in SMALL + (taken,)] for told in reversed(questions)]
        self.assertEqual(first, again[::-1])


if __name__ == "__main__":
    unittest.main()
