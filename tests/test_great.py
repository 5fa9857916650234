import itertools
import math
import random
import unittest

from seeall.errors import NoBoard, NoCell, NoLot, NoNumber, TooGreat
from seeall.fewest import least, many_lots
from seeall.great import king_at, king_of, kings, rook_lots, rooks, rooks_see
from seeall.lots import sees_all
from tests.plain import KING, ROOK, plain_cells, plain_is_lot, small_boards, some_lots
from tests.things import (
    GREAT, changed, misordered, nested, no_cells, no_wholes, not_refused, refusal, shorter, strange_things, told_things,
)

BILLION = 10 ** 9
SIDES = (1, 2, 3, 4, 5, 6, 7, 19, 20, 21, 22, 1000, BILLION - 2, BILLION - 1, BILLION)
NO_SIDES = [0, -1, BILLION + 1, True, None, "1", [1], (1,), {}, 1.0]
WITHOUT_MORE = (kings, rooks)


def sides(high, wide):
    """The first two places of each call here, as misordered takes them."""
    return [(high, NoBoard, NO_SIDES), (wide, NoBoard, NO_SIDES)]


def plain_kings(high, wide):
    """The cells of the kings, part by part, in the order of their numbers."""
    cells = []
    for top in range(0, high, 3):
        for left in range(0, wide, 3):
            row = top + 1 if top + 1 < high else high - 1
            column = left + 1 if left + 1 < wide else wide - 1
            cells.append((row, column))
    return cells


def is_beside(cell, other):
    return max(abs(cell[0] - other[0]), abs(cell[1] - other[1])) <= 1


def some_great_cells(high, wide):
    """Cells in the first and last rows and columns, and others."""
    chance = random.Random(f"{high} {wide}")
    rows = {0, 1, 2, 3, high // 2, high - 4, high - 3, high - 2, high - 1, chance.randrange(high)}
    columns = {0, 1, 2, 3, wide // 2, wide - 4, wide - 3, wide - 2, wide - 1, chance.randrange(wide)}
    return [(row, column) for row in sorted(rows) for column in sorted(columns) if 0 <= row < high
            and 0 <= column < wide]


def rook_counts(high, wide):
    """At place k, how many lots of k cells have one in each row or in each column, reckoned by whole polynomials.

    Each polynomial is written as one whole number, with its variable put as a power of 2 beyond all counts.
    """
    shift = 2 * high * wide + 64
    x = 1 << shift

    def all_rows(many, length):
        return ((1 + x) ** length - 1) ** many

    both = sum((-1) ** out * math.comb(wide, out) * all_rows(high, wide - out) for out in range(wide + 1))
    total = all_rows(high, wide) + all_rows(wide, high) - both
    return [(total >> (shift * k)) & (x - 1) for k in range(high * wide + 1)]


class KingsTest(unittest.TestCase):
    def test_known_numbers(self):
        self.assertEqual(kings(1, 1), 1)
        self.assertEqual(kings(3, 3), 1)
        self.assertEqual(kings(3, 4), 2)
        self.assertEqual(kings(4, 4), 4)
        self.assertEqual(kings(8, 8), 9)
        self.assertEqual(kings(20, 21), 49)
        self.assertEqual(kings(1, BILLION), 333333334)
        self.assertEqual(kings(BILLION, BILLION), 333333334 ** 2)
        self.assertEqual(kings(BILLION, 3), 333333334)
        self.assertEqual(kings(BILLION - 1, 3), 333333333)

    def test_one_by_one(self):
        for high in range(1, 24):
            for wide in range(1, 24):
                told = kings(high, wide)
                self.assertIs(told.__class__, int)
                self.assertEqual(told, len(plain_kings(high, wide)), (high, wide))

    def test_the_least_of_small_boards(self):
        for board in small_boards():
            self.assertEqual(kings(*board), least(board, KING), board)

    def test_no_king_sees_two_of_the_first_cells(self):
        for high in range(1, 11):
            for wide in range(1, 11):
                firsts = [(row, column) for row in range(0, high, 3) for column in range(0, wide, 3)]
                self.assertEqual(kings(high, wide), len(firsts))
                for cell in plain_cells((high, wide)):
                    self.assertLessEqual(len([first for first in firsts if is_beside(first, cell)]), 1)


class KingAtTest(unittest.TestCase):
    def test_known_cells(self):
        self.assertEqual(king_at(1, 1, 0), (0, 0))
        self.assertEqual(king_at(2, 2, 0), (1, 1))
        self.assertEqual(king_at(3, 3, 0), (1, 1))
        self.assertEqual(king_at(4, 4, 0), (1, 1))
        self.assertEqual(king_at(4, 4, 1), (1, 3))
        self.assertEqual(king_at(4, 4, 2), (3, 1))
        self.assertEqual(king_at(4, 4, 3), (3, 3))
        self.assertEqual(king_at(1, 6, 1), (0, 4))
        self.assertEqual(king_at(6, 1, 1), (4, 0))
        self.assertEqual(king_at(BILLION, BILLION, 0), (1, 1))
        self.assertEqual(king_at(BILLION, BILLION, 333333333), (1, BILLION - 1))
        self.assertEqual(king_at(BILLION, BILLION, 333333334), (4, 1))
        self.assertEqual(king_at(BILLION, BILLION, 333333334 ** 2 - 1), (BILLION - 1, BILLION - 1))
        self.assertEqual(king_at(BILLION - 1, BILLION - 2, 333333333 ** 2 - 1), (BILLION - 3, BILLION - 3))

    def test_one_by_one(self):
        for high in range(1, 15):
            for wide in range(1, 15):
                due = plain_kings(high, wide)
                told = [king_at(high, wide, number) for number in range(len(due))]
                self.assertEqual(told, due, (high, wide))
                self.assertEqual({cell.__class__ for cell in told}, {tuple})

    def test_they_see_all(self):
        for high in range(1, 9):
            for wide in range(1, 9):
                lot = tuple(sorted(king_at(high, wide, number) for number in range(kings(high, wide))))
                self.assertIs(sees_all((high, wide), KING, lot), True, (high, wide))

    def test_no_numbers(self):
        for high, wide in ((1, 1), (3, 4), (20, 21), (BILLION, 1), (BILLION, BILLION)):
            many = ((high + 2) // 3) * ((wide + 2) // 3)
            for at, thing in enumerate(no_wholes(0, many - 1)):
                self.assertIs(refusal(king_at, high, wide, thing), NoNumber, (high, wide, at))
            self.assertIs(refusal(king_at, high, wide, 0), None)
            self.assertIs(refusal(king_at, high, wide, many - 1), None)


class KingOfTest(unittest.TestCase):
    def test_known_numbers(self):
        self.assertEqual(king_of(1, 1, (0, 0)), 0)
        self.assertEqual(king_of(4, 4, (2, 2)), 0)
        self.assertEqual(king_of(4, 4, (2, 3)), 1)
        self.assertEqual(king_of(4, 4, (3, 2)), 2)
        self.assertEqual(king_of(4, 4, (3, 3)), 3)
        self.assertEqual(king_of(BILLION, BILLION, (BILLION - 1, BILLION - 1)), 333333334 ** 2 - 1)
        self.assertEqual(king_of(BILLION, BILLION, (BILLION - 2, BILLION - 2)), 333333332 * 333333334 + 333333332)
        self.assertEqual(king_of(BILLION, BILLION, (3, 0)), 333333334)

    def test_one_by_one(self):
        for high in range(1, 12):
            for wide in range(1, 12):
                cells = plain_kings(high, wide)
                for cell in plain_cells((high, wide)):
                    due = [number for number, king in enumerate(cells) if is_beside(king, cell)][0]
                    told = king_of(high, wide, cell)
                    self.assertIs(told.__class__, int)
                    self.assertEqual(told, due, (high, wide, cell))

    def test_on_great_boards(self):
        for high, wide in itertools.product(SIDES, SIDES):
            across = (wide + 2) // 3
            for cell in some_great_cells(high, wide):
                number = king_of(high, wide, cell)
                self.assertIs(is_beside(king_at(high, wide, number), cell), True, (high, wide, cell))
                row, column = divmod(number, across)
                for above, left in itertools.product((-2, -1, 0, 1), (-2, -1, 0, 1)):
                    other = (row + above) * across + column + left
                    if row + above >= 0 and 0 <= column + left < across and other < number:
                        self.assertIs(is_beside(king_at(high, wide, other), cell), False, (high, wide, cell))

    def test_whatever_is_no_cell(self):
        for board in ((1, 1), (2, 3), (8, 8)):
            for at, thing in enumerate(no_cells(board)):
                self.assertIs(refusal(king_of, *board, thing), NoCell, (board, at))
        wrong = [(BILLION, 0), (0, BILLION), (-1, 0), (0, -1), (GREAT, 0), [0, 0], (0,), (0, 0, 0), (True, 0), (0, 0.0)]
        for thing in wrong + strange_things():
            self.assertIs(refusal(king_of, BILLION, BILLION, thing), NoCell, thing)
        self.assertIs(refusal(king_of, BILLION, 20, (20, BILLION - 1)), NoCell)
        self.assertIs(refusal(king_of, BILLION, 20, (BILLION - 1, 19)), None)


class RooksTest(unittest.TestCase):
    def test_known_numbers(self):
        for high, wide in itertools.product(SIDES, SIDES):
            told = rooks(high, wide)
            self.assertIs(told.__class__, int)
            self.assertEqual(told, min(high, wide))

    def test_the_least_of_small_boards(self):
        for board in small_boards():
            self.assertEqual(rooks(*board), least(board, ROOK), board)


class RookLotsTest(unittest.TestCase):
    def test_known_numbers(self):
        self.assertEqual([rook_lots(1, 1, many) for many in (0, 1, 2, 400)], [0, 1, 0, 0])
        self.assertEqual([rook_lots(2, 2, many) for many in range(6)], [0, 0, 6, 4, 1, 0])
        self.assertEqual([rook_lots(1, 3, many) for many in range(5)], [0, 3, 3, 1, 0])
        self.assertEqual(rook_lots(8, 8, 8), 2 * 8 ** 8 - math.factorial(8))
        self.assertEqual(rook_lots(20, 20, 20), 2 * 20 ** 20 - math.factorial(20))
        self.assertEqual(rook_lots(20, 19, 19), 20 ** 19)
        self.assertEqual(rook_lots(20, 20, 19), 0)
        self.assertEqual(rook_lots(20, 20, 400), 1)
        self.assertEqual(rook_lots(20, 20, 399), 400)
        self.assertEqual(rook_lots(20, 1, 5), math.comb(20, 5))

    def test_small_boards_counted_one_by_one(self):
        for board in small_boards():
            for many in range(board[0] * board[1] + 1):
                self.assertEqual(rook_lots(*board, many), many_lots(board, ROOK, many), (board, many))
            for many in (board[0] * board[1] + 1, 400):
                self.assertEqual(rook_lots(*board, many), 0)

    def test_held_against_polynomials(self):
        for high, wide in ((4, 4), (5, 3), (7, 9), (13, 8), (1, 20), (20, 1), (20, 2), (19, 20), (20, 20)):
            due = rook_counts(high, wide)
            for many in sorted({*range(0, len(due), max(1, len(due) // 40)), 0, 1, high, wide, len(due) - 1}):
                told = rook_lots(high, wide, many)
                self.assertIs(told.__class__, int)
                self.assertEqual(told, due[many], (high, wide, many))

    def test_turned_boards_have_as_many(self):
        for high, wide in itertools.product((1, 2, 5, 11, 20), (3, 4, 19)):
            for many in (0, 1, 5, 20, 55, 380):
                self.assertEqual(rook_lots(high, wide, many), rook_lots(wide, high, many))

    def test_sides_beyond_twenty(self):
        for high, wide in itertools.product(SIDES, SIDES):
            if max(high, wide) > 20:
                for many in (0, 1, 400):
                    with self.assertRaises(TooGreat) as caught:
                        rook_lots(high, wide, many)
                    self.assertEqual((caught.exception.many, caught.exception.most), (max(high, wide), 20))
            else:
                self.assertIs(refusal(rook_lots, high, wide, 400), None)

    def test_no_numbers(self):
        for high, wide in ((1, 1), (20, 20), (21, 20), (BILLION, BILLION)):
            for at, thing in enumerate(no_wholes(0, 400)):
                self.assertIs(refusal(rook_lots, high, wide, thing), NoNumber, (high, wide, at))


class RooksSeeTest(unittest.TestCase):
    def test_known_lots(self):
        self.assertIs(rooks_see(1, 1, ()), False)
        self.assertIs(rooks_see(1, 1, ((0, 0),)), True)
        self.assertIs(rooks_see(2, 2, ((0, 0), (0, 1))), True)
        self.assertIs(rooks_see(2, 2, ((0, 0), (1, 0))), True)
        self.assertIs(rooks_see(2, 3, ((0, 0), (0, 1))), False)
        self.assertIs(rooks_see(BILLION, 1, ((BILLION - 1, 0),)), True)
        self.assertIs(rooks_see(1, BILLION, ((0, 7),)), True)
        self.assertIs(rooks_see(BILLION, BILLION, ()), False)
        self.assertIs(rooks_see(BILLION, 2, ((0, 0), (BILLION - 1, 1))), True)
        self.assertIs(rooks_see(BILLION, 2, ((0, 0), (BILLION - 1, 0))), False)

    def test_four_hundred_cells(self):
        lot = tuple((k * 1000, k) for k in range(400))
        self.assertIs(rooks_see(BILLION, 400, lot), True)
        self.assertIs(rooks_see(BILLION, 401, lot), False)
        self.assertIs(rooks_see(BILLION, 400, lot[:-1]), False)
        self.assertIs(rooks_see(400, BILLION, tuple((k, BILLION - 1) for k in range(400))), True)
        self.assertIs(refusal(rooks_see, BILLION, 401, (*lot, (BILLION - 1, 400))), NoLot)
        self.assertIs(refusal(rooks_see, 1, 401, tuple((0, k) for k in range(401))), NoLot)
        self.assertIs(refusal(rooks_see, 100, 100, tuple(plain_cells((100, 100)))), NoLot)
        self.assertIs(rooks_see(20, 20, tuple(plain_cells((20, 20)))), True)

    def test_one_by_one(self):
        for board in ((1, 1), (1, 4), (2, 3), (3, 3), (4, 2), (5, 5), (8, 8)):
            for lot in some_lots(board, "rook", 150):
                self.assertIs(rooks_see(*board, lot), sees_all(board, ROOK, lot), (board, lot))
        for wide in (3, 4, 9):
            for lot in itertools.combinations(plain_cells((3, wide)), 3):
                self.assertIs(rooks_see(3, wide, lot), len({row for row, column in lot}) == 3
                              or len({column for row, column in lot}) == wide)

    def test_whatever_is_no_lot(self):
        wrong = [((0, 1), (0, 0)), ((0, 0), (0, 0)), [(0, 0)], ((0, BILLION),), ((BILLION, 0),), ((-1, 0),), (0, 0),
                 ((0, 0), (0, True)), ((0, 0), [0, 1]), ((0, 0), None), ((0,),), ((0, 0, 0),), ("00",), {(0, 0): 1}]
        wrong += [thing for thing in told_things() + strange_things() if not plain_is_lot((8, 8), thing)]
        wrong += [nested(3000, lambda thing: (thing,), (0, 0))]
        for at, thing in enumerate(wrong):
            self.assertIs(refusal(rooks_see, BILLION, BILLION, thing), NoLot, at)
            self.assertIs(refusal(rooks_see, 1, 1, thing), NoLot, at)


class RefusalTest(unittest.TestCase):
    def test_no_sides(self):
        asked = [(kings, ()), (rooks, ()), (king_at, (0,)), (king_of, ((0, 0),)), (rook_lots, (0,)), (rooks_see, ((),))]
        for at, thing in enumerate(no_wholes(1, BILLION)):
            for call, told in asked:
                self.assertIs(refusal(call, thing, 1, *told), NoBoard, (call, at))
                self.assertIs(refusal(call, 1, thing, *told), NoBoard, (call, at))

    def test_sides_of_every_size(self):
        for high, wide in itertools.product(SIDES, SIDES):
            for call, told in ((kings, ()), (rooks, ()), (king_at, (0,)), (king_of, ((0, 0),)), (rooks_see, ((),))):
                self.assertIs(refusal(call, high, wide, *told), None, (call, high, wide))

    def test_the_order_of_refusals(self):
        for call in WITHOUT_MORE:
            self.assertEqual(misordered(call, sides(BILLION, 1)), [])
        numbers = [-1, True, None, "0", [0], (0,), {}, GREAT]
        cells = [None, True, (-1, 0), (0, BILLION), [0, 0], (0,), (0, 0, 0), "0,0", (False, 0)]
        lots = [None, True, [], "", {}, ((0, BILLION),), ((0, 1), (0, 0)), ([0, 0],)]
        self.assertEqual(misordered(king_at, sides(4, 4) + [(3, NoNumber, numbers + [4])]), [])
        self.assertEqual(misordered(king_of, sides(BILLION, BILLION) + [((5, 5), NoCell, cells)]), [])
        self.assertEqual(misordered(rooks_see, sides(BILLION, BILLION) + [(((5, 5),), NoLot, lots)]), [])
        self.assertEqual(misordered(rook_lots, sides(20, 20) + [(400, NoNumber, numbers + [401])]), [])
        for high, wide in ((21, 20), (20, 21), (BILLION, 1)):
            places = shorter(sides(high, wide) + [(400, NoNumber, numbers + [401])], 9)
            self.assertEqual(misordered(rook_lots, places, TooGreat), [])

    def test_refusals_are_sight_errors(self):
        for call in WITHOUT_MORE:
            self.assertEqual(not_refused(call, [(side, 1) for side in NO_SIDES] + [(1, side) for side in NO_SIDES]), [])
        self.assertEqual(not_refused(king_at, [(0, 1, 0), (1, 1, 1)]), [])
        self.assertEqual(not_refused(king_of, [(0, 1, (0, 0)), (1, 1, (0, 1))]), [])
        self.assertEqual(not_refused(rook_lots, [(0, 1, 0), (1, 1, 401), (21, 1, 0)]), [])
        self.assertEqual(not_refused(rooks_see, [(0, 1, ()), (1, 1, None)]), [])


class HandedInTest(unittest.TestCase):
    def test_nothing_handed_in_is_changed(self):
        for call in WITHOUT_MORE:
            self.assertIs(changed(call, 4, 4), False)
        self.assertIs(changed(king_at, 4, 4, 0), False)
        self.assertIs(changed(king_of, 4, 4, (0, 0)), False)
        self.assertIs(changed(rook_lots, 4, 4, 1), False)
        self.assertIs(changed(rooks_see, 4, 4, ()), False)

    def test_the_same_answer_again(self):
        questions = list(itertools.product(SIDES, SIDES))
        first = [(kings(*told), king_at(*told, 0), rooks(*told)) for told in questions]
        again = [(kings(*told), king_at(*told, 0), rooks(*told)) for told in reversed(questions)]
        self.assertEqual(first, again[::-1])


if __name__ == "__main__":
    unittest.main()
