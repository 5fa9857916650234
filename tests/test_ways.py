import itertools
import random
import unittest

from seeall.errors import NoBoard, NoCell, NoPiece, NoPlacing
from seeall.lots import seen
from seeall.pieces import is_piece
from seeall.sights import sight
from seeall.turns import turned_board, turned_cell, turned_piece
from seeall.ways import hidden, is_placing, seen_so, sight_so
from tests.plain import (
    BISHOP, DOWNWARD, EMPTY, KING, KNIGHT, NAMED, ONE_WAY, PIECES, QUEEN, ROOK, all_boards, plain_cells, plain_sees,
    some_pieces,
)
from tests.things import (
    GREAT, NO_BOARDS, NO_NUMBERS, changed, misordered, nested, no_cells, not_refused, refusal, shorter, told_things,
    wrong_things,
)

RIGHTWARD = ((), ((0, 1),))
TOLD = (seen_so, hidden)
NO_KINDS = [None, True, (), [KING], KING, (KING,) * 4, (KING, None), ((),), "king", {}, (KING, [(), ()])]
# Of the board (2, 3) and two kinds.
NO_PLACINGS = [
    None, True, "", [], {}, ((0, 0),), ((0, 0, 2),), ((0, 0, -1),), ((2, 0, 0),), ((0, 0, True),), ((0, 0, 0, 0),),
    ((0, 1, 0), (0, 0, 0)), ((0, 0, 0), (0, 0, 0)), ((0, 0, 0), (0, 0, 1)), ([0, 0, 0],), (0, 0, 0),
]
NO_STANDING = [None, True, 0, "", (0, 0), (1, 1), (2, 0), (0, 3), (-1, 0), [0, 1], (0, True), (0, 1, 0), ((0, 1),)]


def some_placings(board, many_kinds, seed, many):
    """Placings with few and with many pieces, the same ones for the same seed."""
    chance = random.Random(f"{board} {many_kinds} {seed}")
    cells = plain_cells(board)
    placings = [(), tuple((*cell, many_kinds - 1) for cell in cells)]
    for k in range(many):
        lot = sorted(chance.sample(cells, chance.randrange(min(len(cells), 12) + 1)))
        placings.append(tuple((*cell, chance.randrange(many_kinds)) for cell in lot))
    return placings


def some_kinds():
    others = some_pieces("ways", 12)
    kinds = [(ROOK,), (QUEEN,), (ONE_WAY,), (ROOK, BISHOP), (QUEEN, KING), (EMPTY, DOWNWARD), (KNIGHT, ROOK, BISHOP)]
    kinds += [(QUEEN, QUEEN), (EMPTY, EMPTY, RIGHTWARD)]
    kinds += [tuple(others[k:k + 1 + k % 3]) for k in range(0, 9)]
    return kinds


def questions():
    boards = ((1, 1), (1, 8), (3, 3), (4, 6), (8, 8))
    return [(board, kinds, placing) for board in boards for kinds in some_kinds()
            for placing in some_placings(board, len(kinds), "so", 8)]


def plain_are_kinds(thing):
    return thing.__class__ is tuple and 1 <= len(thing) <= 3 and all(is_piece(kind) for kind in thing)


def plain_sees_so(board, kinds, placing, placed, cell):
    """Whether the piece that is placed sees the cell, the others in its way."""
    row, column, number = placed
    leaps, runs = kinds[number]
    way = (cell[0] - row, cell[1] - column)
    if way == (0, 0) or way in leaps:
        return True
    stands = [other[:2] for other in placing]
    for down, right in runs:
        for times in range(1, 9):
            between = [(row + k * down, column + k * right) for k in range(1, times)]
            if way == (times * down, times * right) and not any(place in stands for place in between):
                return True
    return False


def plain_sight_so(board, kinds, placing, placed):
    return tuple(cell for cell in plain_cells(board) if plain_sees_so(board, kinds, placing, placed, cell))


def plain_seen_so(board, kinds, placing):
    return tuple(cell for cell in plain_cells(board)
                 if any(plain_sees_so(board, kinds, placing, placed, cell) for placed in placing))


def plain_hidden(board, kinds, placing):
    free = [cell for cell in plain_cells(board)
            if any(plain_sees(kinds[placed[2]], placed[:2], cell) for placed in placing)]
    so = plain_seen_so(board, kinds, placing)
    return tuple(cell for cell in free if cell not in so)


def plain_is_placing(board, many_kinds, thing):
    """Of anything; told apart by how the parts are written, so that 1, True and 1.0 are three things."""
    if thing.__class__ is not tuple:
        return False
    written = {repr((*cell, number)): cell for cell in plain_cells(board) for number in range(many_kinds)}
    cells = [written.get(repr(part)) for part in thing]
    return None not in cells and cells == sorted(set(cells))


def no_placings(board, many_kinds):
    """What is no placing of the board and so many kinds."""
    things = wrong_things()
    for cell in no_cells(board):
        if cell.__class__ is tuple:
            things += [((*cell, 0),), ((0, 0, 0), (*cell, 0))]
        things += [(cell,), ((cell, 0),), (cell, 0)]
    for number in (-1, many_kinds, many_kinds + 1, GREAT, -GREAT, *NO_NUMBERS):
        things += [((0, 0, number),), ((0, 0, 0), (board[0] - 1, board[1] - 1, number))]
    for cell in plain_cells(board):
        right = (*cell, 0)
        things += [(list(right),), [right], right, (right, right), ((*right, 0),), (cell,), {right: True},
                   repr((right,))]
        things += [(right, (*cell, 1)), ((*cell, 1), right)]
        if cell != (0, 0):
            things += [(right, (0, 0, 0)), ((0, 0, 0), right, right), ((0, 0, 0), right, None)]
    return [thing for thing in things if not plain_is_placing(board, many_kinds, thing)]


class IsPlacingTest(unittest.TestCase):
    def test_known_placings(self):
        self.assertIs(is_placing((1, 1), (KING,), ()), True)
        self.assertIs(is_placing((1, 1), (KING,), ((0, 0, 0),)), True)
        self.assertIs(is_placing((1, 1), (KING,), ((0, 0, 1),)), False)
        self.assertIs(is_placing((1, 1), (KING, ROOK), ((0, 0, 1),)), True)
        self.assertIs(is_placing((1, 1), (KING, ROOK), ((0, 0, 2),)), False)
        self.assertIs(is_placing((1, 1), (KING, ROOK, KING), ((0, 0, 2),)), True)
        self.assertIs(is_placing((1, 1), (KING, ROOK, KING), ((0, 0, 3),)), False)
        self.assertIs(is_placing((2, 2), (KING, ROOK), ((0, 0, 1), (0, 1, 0), (1, 0, 1))), True)
        self.assertIs(is_placing((2, 2), (KING, ROOK), ((0, 0, 0), (0, 0, 1))), False)
        self.assertIs(is_placing((2, 2), (KING, ROOK), ((0, 1, 0), (0, 0, 1))), False)
        self.assertIs(is_placing((2, 2), (KING, ROOK), ((2, 0, 0),)), False)

    def test_placings_one_by_one(self):
        for board in all_boards():
            for kinds in ((KING,), (ROOK, KING), (EMPTY, EMPTY, QUEEN)):
                for placing in some_placings(board, len(kinds), "is", 4):
                    self.assertIs(is_placing(board, kinds, placing), True, (board, kinds, placing))

    def test_all_short_tuples(self):
        placed = list(itertools.product((-1, 0, 1), (0, 1, 2), (0, 1, 2)))
        for many in (0, 1, 2):
            for thing in itertools.product(placed, repeat=many):
                cells = [part[:2] for part in thing]
                due = (all(row in (0, 1) and column in (0, 1) and number < 2 for row, column, number in thing)
                       and cells == sorted(set(cells)))
                self.assertIs(is_placing((2, 2), (KING, ROOK), thing), due, thing)

    def test_whatever_is_none(self):
        for board in ((1, 1), (2, 3), (8, 8)):
            for kinds in ((KING,), (KING, ROOK)):
                for at, thing in enumerate(no_placings(board, len(kinds))):
                    self.assertIs(is_placing(board, kinds, thing), False, (board, at, thing))
        self.assertIs(is_placing((8, 8), (KING,), nested(3000, lambda thing: (thing,), (0, 0, 0))), False)

    def test_anything(self):
        for at, thing in enumerate(told_things()):
            self.assertIs(is_placing((8, 8), (KING,), thing), thing == () and thing.__class__ is tuple, at)


class SightSoTest(unittest.TestCase):
    def test_known_sights(self):
        row = ((0, 0, 0), (0, 2, 1))
        self.assertEqual(sight_so((1, 5), (ROOK, EMPTY), row, (0, 0)), ((0, 0), (0, 1), (0, 2)))
        self.assertEqual(sight_so((1, 5), (ROOK, EMPTY), row, (0, 2)), ((0, 2),))
        self.assertEqual(sight_so((1, 5), (ROOK, ROOK), row, (0, 2)), ((0, 0), (0, 1), (0, 2), (0, 3), (0, 4)))
        beside = ((0, 0, 0), (0, 1, 1))
        self.assertEqual(sight_so((1, 5), (ROOK, EMPTY), beside, (0, 0)), ((0, 0), (0, 1)))

    def test_leaps_are_hindered_by_nothing(self):
        self.assertEqual(sight_so((1, 5), ((((0, 3),), ()),), ((0, 0, 0), (0, 1, 0), (0, 3, 0)), (0, 0)),
                         ((0, 0), (0, 3)))
        both = ((((0, 3),), ((0, 1),)),)
        self.assertEqual(sight_so((1, 5), both, ((0, 0, 0), (0, 1, 0)), (0, 0)), ((0, 0), (0, 1), (0, 3)))

    def test_runs_of_wide_steps_are_hindered_where_they_lead(self):
        wide = (((), ((0, 2),)), EMPTY)
        self.assertEqual(sight_so((1, 7), wide, ((0, 0, 0), (0, 1, 1), (0, 4, 1)), (0, 0)), ((0, 0), (0, 2), (0, 4)))

    def test_a_cell_that_another_run_leads_to_is_seen(self):
        two = (((), ((0, 1), (0, 2))), EMPTY)
        self.assertEqual(sight_so((1, 5), two, ((0, 0, 0), (0, 1, 1)), (0, 0)), ((0, 0), (0, 1), (0, 2), (0, 4)))

    def test_one_by_one(self):
        for board, kinds, placing in questions():
            for placed in placing[:6] + placing[-2:]:
                told = sight_so(board, kinds, placing, placed[:2])
                self.assertIs(told.__class__, tuple)
                self.assertEqual(told, plain_sight_so(board, kinds, placing, placed), (board, kinds, placing, placed))

    def test_alone_it_is_the_plain_sight(self):
        for board in ((1, 1), (3, 5), (8, 8)):
            for piece in PIECES:
                for cell in plain_cells(board)[::4]:
                    self.assertEqual(sight_so(board, (piece,), ((*cell, 0),), cell), sight(board, piece, cell))

    def test_cells_on_which_no_piece_stands(self):
        for board in ((1, 1), (2, 3), (8, 8)):
            for placing in some_placings(board, 2, "none", 5):
                stands = [placed[:2] for placed in placing]
                for cell in plain_cells(board):
                    due = None if cell in stands else NoCell
                    self.assertIs(refusal(sight_so, board, (KING, ROOK), placing, cell), due, (board, placing, cell))

    def test_whatever_is_no_cell(self):
        for board in ((1, 1), (2, 3), (8, 8)):
            for placing in ((), tuple((*cell, 0) for cell in plain_cells(board))):
                for at, thing in enumerate(no_cells(board)):
                    self.assertIs(refusal(sight_so, board, (KING,), placing, thing), NoCell, (board, at))


class SeenSoTest(unittest.TestCase):
    def test_known_placings(self):
        self.assertEqual(seen_so((2, 2), (KING,), ()), ())
        self.assertEqual(hidden((2, 2), (KING,), ()), ())
        self.assertEqual(seen_so((1, 5), (RIGHTWARD, EMPTY), ((0, 0, 0), (0, 2, 1))), ((0, 0), (0, 1), (0, 2)))
        self.assertEqual(hidden((1, 5), (RIGHTWARD, EMPTY), ((0, 0, 0), (0, 2, 1))), ((0, 3), (0, 4)))
        self.assertEqual(hidden((1, 5), (RIGHTWARD, KING), ((0, 0, 0), (0, 2, 1))), ((0, 4),))
        self.assertEqual(hidden((1, 5), (RIGHTWARD, KING), ((0, 0, 1), (0, 2, 0))), ())
        self.assertEqual(seen_so((3, 3), (BISHOP, KNIGHT), ((0, 0, 0), (1, 1, 1))), ((0, 0), (1, 1)))
        self.assertEqual(hidden((3, 3), (BISHOP, KNIGHT), ((0, 0, 0), (1, 1, 1))), ((2, 2),))

    def test_one_by_one(self):
        for board, kinds, placing in questions():
            told = seen_so(board, kinds, placing)
            self.assertIs(told.__class__, tuple)
            self.assertEqual(told, plain_seen_so(board, kinds, placing), (board, kinds, placing))
            told = hidden(board, kinds, placing)
            self.assertIs(told.__class__, tuple)
            self.assertEqual(told, plain_hidden(board, kinds, placing), (board, kinds, placing))

    def test_some_of_them_hide_something(self):
        self.assertGreater(len([told for told in questions() if hidden(*told) != ()]), 50)

    def test_pieces_of_one_kind_hide_nothing(self):
        for piece in PIECES + tuple(some_pieces("one kind", 60)):
            for board in ((1, 6), (3, 4), (8, 8)):
                for placing in some_placings(board, 1, "one", 4):
                    lot = tuple(placed[:2] for placed in placing)
                    self.assertEqual(hidden(board, (piece,), placing), (), (board, piece, placing))
                    self.assertEqual(seen_so(board, (piece,), placing), seen(board, piece, lot))

    def test_the_same_piece_as_several_kinds_hides_nothing(self):
        for piece in NAMED + (ONE_WAY, DOWNWARD):
            for placing in some_placings((8, 8), 3, "same", 6):
                self.assertEqual(hidden((8, 8), (piece, piece, piece), placing), (), (piece, placing))

    def test_turned_all_stays(self):
        for board, kinds, placing in questions()[::7]:
            for turn in range(8):
                other_board, other_kinds = turned_board(board, turn), tuple(turned_piece(kind, turn) for kind in kinds)
                other = tuple(sorted((*turned_cell(board, turn, placed[:2]), placed[2]) for placed in placing))
                for call in TOLD:
                    due = tuple(sorted(turned_cell(board, turn, cell) for cell in call(board, kinds, placing)))
                    self.assertEqual(call(other_board, other_kinds, other), due, (board, kinds, placing, turn))


class RefusalTest(unittest.TestCase):
    def test_no_kinds(self):
        wrong = NO_KINDS + wrong_things()
        wrong += [(thing,) for thing in wrong] + [(KING, thing) for thing in wrong]
        for at, thing in enumerate(thing for thing in wrong if not plain_are_kinds(thing)):
            for call in (is_placing, *TOLD):
                self.assertIs(refusal(call, (2, 3), thing, ()), NoPiece, (call, at))
            self.assertIs(refusal(sight_so, (2, 3), thing, (), (0, 0)), NoPiece, at)
        for kinds in ((KING,), (KING, ROOK), (KING, ROOK, EMPTY)):
            for call in (is_placing, *TOLD):
                self.assertIs(refusal(call, (2, 3), kinds, ()), None)

    def test_no_placings(self):
        for board in ((1, 1), (2, 3), (8, 8)):
            for at, thing in enumerate(no_placings(board, 2)):
                for call in TOLD:
                    self.assertIs(refusal(call, board, (KING, ROOK), thing), NoPlacing, (call, board, at))
                self.assertIs(refusal(sight_so, board, (KING, ROOK), thing, (0, 0)), NoPlacing, (board, at))

    def test_the_order_of_refusals(self):
        places = [((2, 3), NoBoard, NO_BOARDS), ((KING, ROOK), NoPiece, NO_KINDS)]
        placings = [(((0, 1, 1), (1, 2, 0)), NoPlacing, NO_PLACINGS)]
        for thing in ((), ((0, 0, 0),), None, [], ((9, 9, 9),)):
            self.assertEqual(misordered(is_placing, places + [(thing, None, [])]), [])
        for call in TOLD:
            self.assertEqual(misordered(call, places + placings), [])
        self.assertEqual(misordered(sight_so, shorter(places, 4) + placings + [((0, 1), NoCell, NO_STANDING)]), [])

    def test_refusals_are_sight_errors(self):
        asked = [(None, (KING,), ()), ((1, 1), (), ()), ((1, 1), (KING,), None)]
        self.assertEqual(not_refused(is_placing, asked[:2]), [])
        for call in TOLD:
            self.assertEqual(not_refused(call, asked), [])
        self.assertEqual(not_refused(sight_so, [(*told, (0, 0)) for told in asked + [((1, 1), (KING,), ())]]), [])


class HandedInTest(unittest.TestCase):
    def test_nothing_handed_in_is_changed(self):
        for call in (is_placing, *TOLD):
            self.assertIs(changed(call, (2, 3), (KING, ROOK), ((0, 1, 1),)), False)
        self.assertIs(changed(sight_so, (2, 3), (KING, ROOK), ((0, 1, 1),), (0, 1)), False)

    def test_the_same_answer_again(self):
        asked = questions()[::5]
        first = [[call(*told) for call in TOLD] for told in asked]
        again = [[call(*told) for call in TOLD] for told in reversed(asked)]
        self.assertEqual(first, again[::-1])


if __name__ == "__main__":
    unittest.main()
