import random
import unittest

from seeall.errors import NoPrices
from seeall.fewest import least
from seeall.prices import bound, cap
from tests.plain import (
    DOWNWARD, EMPTY, KING, KNIGHT, PIECES, QUEEN, ROOK, all_boards, plain_cells, plain_sees, small_boards, some_pieces,
)
from tests.things import GREAT, board_and_piece, changed, misordered, not_refused, refusal, wrong_things

CALLS = (cap, bound)
NO_PRICE = (-1, 1001, -1000, GREAT, -GREAT, True, False, None, "1", "", [1], (1,), {}, (), 1.0, 0.0, b"1")


def some_prices(board, seed):
    """Prices of every kind: all 0, all 1, all 1000, one alone, mixed."""
    chance = random.Random(f"{board} {seed}")
    many = board[0] * board[1]
    lone = [0] * many
    lone[chance.randrange(many)] = chance.randrange(1, 1001)
    mixed = [[chance.randrange(most + 1) for k in range(many)] for most in (1, 2, 7, 1000)]
    return [(0,) * many, (1,) * many, (1000,) * many] + [tuple(prices) for prices in [lone] + mixed]


def plain_cap(board, piece, prices):
    cells = plain_cells(board)
    return max(sum(price for other, price in zip(cells, prices) if plain_sees(piece, cell, other)) for cell in cells)


def plain_bound(board, piece, prices):
    highest = plain_cap(board, piece, prices)
    many = 0
    while many * highest < sum(prices):
        many += 1
    return many


def no_prices(board):
    """What is no prices of the board."""
    many = board[0] * board[1]
    things = [thing for thing in wrong_things() if thing.__class__ is not tuple or len(thing) != many]
    for prices in some_prices(board, "wrong"):
        things += [prices[1:], prices[:-1], (*prices, 0), (0, *prices), (*prices, *prices), list(prices), (prices,)]
        things += [[prices], repr(prices), dict(zip(plain_cells(board), prices)), dict(enumerate(prices)), sum(prices)]
        for wrong in NO_PRICE:
            for at in {0, many // 2, many - 1}:
                things.append((*prices[:at], wrong, *prices[at + 1:]))
    return things + [tuple(plain_cells(board)), (), (((),) * many), frozenset(range(many)), range(many)]


class CapTest(unittest.TestCase):
    def test_known_prices(self):
        self.assertEqual(cap((1, 1), EMPTY, (7,)), 7)
        self.assertEqual(cap((1, 3), KING, (1, 2, 4)), 7)
        self.assertEqual(cap((1, 4), KING, (1, 2, 4, 8)), 14)
        self.assertEqual(cap((2, 2), ROOK, (1, 1, 1, 1)), 3)
        self.assertEqual(cap((3, 1), DOWNWARD, (0, 5, 6)), 11)
        self.assertEqual(cap((1, 3), (((0, 1),), ()), (9, 0, 3)), 9)
        self.assertEqual(cap((1, 3), (((0, -1),), ()), (9, 0, 8)), 9)
        self.assertEqual(cap((1, 3), (((0, 1),), ()), (0, 9, 8)), 17)
        self.assertEqual(cap((8, 8), QUEEN, (1000,) * 64), 28000)

    def test_cell_by_cell(self):
        for board in all_boards():
            for piece in (KING, ROOK, KNIGHT, DOWNWARD):
                for prices in some_prices(board, "cap")[2:6]:
                    self.assertEqual(cap(board, piece, prices), plain_cap(board, piece, prices), (board, piece, prices))

    def test_other_pieces_cell_by_cell(self):
        for board in ((1, 1), (2, 3), (3, 2), (8, 8), (1, 8)):
            for piece in PIECES + tuple(some_pieces("cap", 10)):
                for prices in some_prices(board, "other"):
                    told = cap(board, piece, prices)
                    self.assertIs(told.__class__, int)
                    self.assertEqual(told, plain_cap(board, piece, prices), (board, piece, prices))


class BoundTest(unittest.TestCase):
    def test_known_prices(self):
        self.assertEqual(bound((1, 1), EMPTY, (7,)), 1)
        self.assertEqual(bound((1, 1), EMPTY, (0,)), 0)
        self.assertEqual(bound((1, 4), KING, (1, 0, 0, 1)), 2)
        self.assertEqual(bound((1, 4), KING, (1, 1, 1, 1)), 2)
        self.assertEqual(bound((1, 6), KING, (1, 1, 1, 1, 1, 1)), 2)
        self.assertEqual(bound((1, 7), KING, (1, 1, 1, 1, 1, 1, 1)), 3)
        self.assertEqual(bound((8, 8), EMPTY, (1000,) * 64), 64)
        self.assertEqual(bound((2, 2), ROOK, (1, 1, 1, 1)), 2)

    def test_prices_of_nothing_bound_by_nothing(self):
        for board in all_boards():
            for piece in (KING, EMPTY, QUEEN):
                prices = (0,) * (board[0] * board[1])
                self.assertEqual((cap(board, piece, prices), bound(board, piece, prices)), (0, 0))

    def test_cell_by_cell(self):
        for board in ((1, 1), (2, 3), (3, 2), (4, 4), (8, 8), (1, 8)):
            for piece in PIECES + tuple(some_pieces("bound", 5)):
                for prices in some_prices(board, "bound")[::2]:
                    told = bound(board, piece, prices)
                    self.assertIs(told.__class__, int)
                    self.assertEqual(told, plain_bound(board, piece, prices), (board, piece, prices))

    def test_a_bound_is_no_more_than_the_least(self):
        for board in small_boards():
            for piece in PIECES:
                fewest = least(board, piece)
                for prices in some_prices(board, "least"):
                    self.assertLessEqual(bound(board, piece, prices), fewest, (board, piece, prices))


class RefusalTest(unittest.TestCase):
    def test_whatever_is_no_prices(self):
        for board in ((1, 1), (1, 2), (2, 3), (8, 8)):
            for at, thing in enumerate(no_prices(board)):
                for call in CALLS:
                    self.assertIs(refusal(call, board, KING, thing), NoPrices, (board, at))

    def test_each_number_of_prices(self):
        for call in CALLS:
            for price in (0, 1, 2, 999, 1000):
                self.assertIs(refusal(call, (1, 2), KING, (price, 1)), None)
                self.assertIs(refusal(call, (1, 2), KING, (1, price)), None)
            for price in (-2, -1, 1001, 1002):
                self.assertIs(refusal(call, (1, 2), KING, (price, 1)), NoPrices)
                self.assertIs(refusal(call, (1, 2), KING, (1, price)), NoPrices)

    def test_each_number_of_cells(self):
        for board in ((1, 1), (2, 3), (8, 8)):
            for many in range(80):
                due = None if many == board[0] * board[1] else NoPrices
                self.assertIs(refusal(cap, board, KING, (1,) * many), due)
                self.assertIs(refusal(bound, board, KING, (1,) * many), due)

    def test_the_order_of_refusals(self):
        wrong = [None, True, 1, "", [], (), (1,) * 5, (1,) * 7, [1] * 6, (1, 1, 1, 1, 1, 1001), (1, True, 1, 1, 1, 1)]
        for call in CALLS:
            places = board_and_piece((2, 3), KING) + [((1, 2, 3, 4, 5, 6), NoPrices, wrong)]
            self.assertEqual(misordered(call, places), [])

    def test_refusals_are_sight_errors(self):
        for call in CALLS:
            asked = [(None, KING, (1,)), ((1, 1), None, (1,)), ((1, 1), KING, ()), ((1, 1), KING, (True,))]
            self.assertEqual(not_refused(call, asked), [])


class HandedInTest(unittest.TestCase):
    def test_nothing_handed_in_is_changed(self):
        for call in CALLS:
            self.assertIs(changed(call, (1, 2), KING, (1, 2)), False)

    def test_the_same_answer_again(self):
        questions = [((2, 3), piece, prices) for piece in PIECES for prices in some_prices((2, 3), "again")]
        first = [(cap(*told), bound(*told)) for told in questions]
        again = [(cap(*told), bound(*told)) for told in reversed(questions)]
        self.assertEqual(first, again[::-1])


if __name__ == "__main__":
    unittest.main()
