import random
import unittest

from seeall.errors import NoLot, NoNumber, TooGreat
from seeall.fewest import least
from seeall.papers import is_paper, some_paper
from tests.plain import (
    DOWNWARD, EMPTY, KING, KNIGHT, NAMED, ONE_WAY, PIECES, QUEEN, ROOK, great_boards, plain_cells, plain_lots,
    plain_seen, plain_seers, plain_sees_all, plain_sight, small_boards, some_lots, some_pieces,
)
from tests.things import (
    board_and_piece, changed, misordered, nested, no_lots, no_wholes, not_refused, refusal, wrong_things,
)

FULL = ("full",)
WRONG_LOTS = [None, True, [], {}, "", ((2, 0),), ((0, 1), (0, 0)), ([0, 0],), (0, 0)]
WRONG_MOSTS = [None, True, False, -1, 65, "1", [1], (1,), {}]


def with_cell(lot, cell):
    return tuple(sorted({*lot, cell}))


def plain_prices_hold(board, piece, held, most, prices):
    cells = plain_cells(board)
    if prices.__class__ is not tuple or len(prices) != len(cells):
        return False
    if any(price.__class__ is not int or not 0 <= price <= 1000 for price in prices):
        return False
    worth = dict(zip(cells, prices))
    if any(worth[cell] for cell in plain_seen(board, piece, held)):
        return False
    highest = max(sum(worth[other] for other in plain_sight(board, piece, cell)) for cell in cells)
    return len(held) > most or sum(prices) > highest * (most - len(held))


def plain_is_paper(board, piece, held, most, thing):
    """Of anything that is not too deep; told apart by how it is written, so that 1, True and 1.0 are three things."""
    if thing.__class__ is not tuple or len(thing) == 0:
        return False
    word = repr(thing[0])
    if word == "'full'" and len(thing) == 1:
        return len(held) > most or (len(held) >= most and not plain_sees_all(board, piece, held))
    if word == "'prices'" and len(thing) == 2:
        return plain_prices_hold(board, piece, held, most, thing[1])
    if word != "'cases'" or len(thing) != 3 or thing[2].__class__ is not tuple:
        return False
    if repr(thing[1]) not in [repr(cell) for cell in plain_cells(board)] or thing[1] in plain_seen(board, piece, held):
        return False
    seers = plain_seers(board, piece, thing[1])
    return len(seers) == len(thing[2]) and all(
        plain_is_paper(board, piece, with_cell(held, cell), most, part) for cell, part in zip(seers, thing[2]))


def any_prices(board, piece, held, chance):
    """Prices, most of them 0 for what held sees."""
    seen = plain_seen(board, piece, held)
    most = chance.choice([1, 1, 1, 2, 1000])
    return tuple(0 if cell in seen and chance.random() < 0.99 else chance.randrange(most + 1)
                 for cell in plain_cells(board))


def any_paper(board, piece, held, most, chance):
    """What has a paper's form, right or not."""
    unseen = [cell for cell in plain_cells(board) if cell not in plain_seen(board, piece, held)]
    if not unseen or len(held) > most or (len(held) == most and chance.random() < 0.8):
        return chance.choice([FULL, ("prices", any_prices(board, piece, held, chance))])
    flat = tuple(1 if cell in unseen else 0 for cell in plain_cells(board))
    if plain_prices_hold(board, piece, held, most, flat) and chance.random() < 0.5:
        return ("prices", flat)
    if chance.random() < 0.02:
        return chance.choice([FULL, ("prices", any_prices(board, piece, held, chance))])
    cell = min([chance.choice(unseen) for k in range(3)], key=lambda cell: len(plain_seers(board, piece, cell)))
    return ("cases", cell, tuple(any_paper(board, piece, with_cell(held, seer), most, chance)
                                 for seer in plain_seers(board, piece, cell)))


def paths_of(thing, path=()):
    """The places of all parts of a tuple, the whole first."""
    paths = [path]
    if thing.__class__ is tuple:
        for at, part in enumerate(thing):
            paths += paths_of(part, path + (at,))
    return paths


def part_at(thing, path):
    for at in path:
        thing = thing[at]
    return thing


def changed_at(thing, path, new):
    if not path:
        return new
    at = path[0]
    return thing[:at] + (changed_at(thing[at], path[1:], new),) + thing[at + 1:]


def changes_of(part):
    """What a part of a paper may be exchanged for."""
    if part.__class__ is tuple:
        longer = [(*part, 0), (*part, ()), (part,), [part]]
        return longer + [list(part), part[1:], part[:-1], part[::-1], (), None, repr(part)]
    if part.__class__ is str:
        return [part + "s", part[:-1], part.upper(), part.title(), part + " ", "", None, [part], (part,), part.encode()]
    return [part + 1, part - 1, bool(part), float(part), str(part), None, [part], (part,), 1001, -1]


def changed_papers(paper):
    """Papers with one part exchanged, at every depth."""
    paths = paths_of(paper)
    return [changed_at(paper, path, new) for path in paths for new in changes_of(part_at(paper, path))]


def some_questions():
    questions = [(board, piece) for board in small_boards() for piece in NAMED]
    questions += [(board, piece) for board in small_boards(8) for piece in PIECES + tuple(some_pieces("paper", 6))]
    questions += [(board, piece) for board in ((3, 4), (6, 2), (3, 3)) for piece in PIECES[5:]]
    return questions


class FullTest(unittest.TestCase):
    def test_every_lot_and_most(self):
        for board, piece in (((1, 3), KING), ((2, 2), ROOK), ((1, 4), DOWNWARD), ((2, 3), KNIGHT), ((1, 1), EMPTY)):
            for held in plain_lots(board):
                for most in range(8):
                    due = len(held) > most or (len(held) == most and not plain_sees_all(board, piece, held))
                    self.assertIs(is_paper(board, piece, held, most, FULL), due, (board, held, most))

    def test_known_ones(self):
        self.assertIs(is_paper((1, 1), KING, (), 0, FULL), True)
        self.assertIs(is_paper((1, 1), KING, (), 1, FULL), False)
        self.assertIs(is_paper((1, 1), KING, ((0, 0),), 1, FULL), False)
        self.assertIs(is_paper((1, 1), KING, ((0, 0),), 0, FULL), True)
        self.assertIs(is_paper((1, 4), KING, ((0, 0),), 1, FULL), True)
        self.assertIs(is_paper((8, 8), KING, tuple(plain_cells((8, 8))), 64, FULL), False)
        self.assertIs(is_paper((8, 8), KING, tuple(plain_cells((8, 8))), 63, FULL), True)
        self.assertIs(is_paper((8, 8), EMPTY, tuple(plain_cells((8, 8))[:-1]), 63, FULL), True)

    def test_other_words(self):
        for thing in (("ful",), ("fulll",), ("Full",), ("FULL",), ("full ",), ("",), ("full", ()), ("full", "full"), (),
                      ["full"], "full", {"full": True}, (("full",),), ("prices",), ("cases",), (b"full",), (None,)):
            self.assertIs(is_paper((1, 1), KING, (), 0, thing), False, thing)
            self.assertIs(is_paper((1, 2), KING, ((0, 0), (0, 1)), 0, thing), False, thing)


class PricesTest(unittest.TestCase):
    def test_just_as_much_as_wanted_and_one_less(self):
        self.assertIs(is_paper((1, 4), KING, (), 1, ("prices", (1, 0, 0, 1))), True)
        self.assertIs(is_paper((1, 4), KING, (), 2, ("prices", (1, 0, 0, 1))), False)
        self.assertIs(is_paper((1, 7), KING, (), 2, ("prices", (1,) * 7)), True)
        self.assertIs(is_paper((1, 6), KING, (), 2, ("prices", (1,) * 6)), False)
        self.assertIs(is_paper((8, 8), EMPTY, (), 63, ("prices", (1,) * 64)), True)
        self.assertIs(is_paper((8, 8), EMPTY, (), 64, ("prices", (1,) * 64)), False)
        self.assertIs(is_paper((8, 8), EMPTY, (), 63, ("prices", (1,) * 63 + (0,))), False)
        self.assertIs(is_paper((8, 8), ROOK, (), 4, ("prices", (1000,) * 64)), True)
        self.assertIs(is_paper((8, 8), ROOK, (), 5, ("prices", (1000,) * 64)), False)

    def test_nothing_for_what_held_sees(self):
        self.assertIs(is_paper((1, 6), KING, ((0, 0),), 2, ("prices", (0, 0, 1, 0, 0, 1))), True)
        self.assertIs(is_paper((1, 6), KING, ((0, 0),), 2, ("prices", (0, 1, 0, 0, 1, 0))), False)
        self.assertIs(is_paper((1, 6), KING, ((0, 0),), 2, ("prices", (1, 0, 1, 0, 0, 1))), False)
        self.assertIs(is_paper((1, 6), KING, ((0, 0),), 3, ("prices", (0, 0, 1, 0, 0, 1))), False)

    def test_none_to_spare(self):
        self.assertIs(is_paper((1, 3), KING, ((0, 0),), 1, ("prices", (0, 0, 1))), True)
        self.assertIs(is_paper((1, 3), KING, ((0, 0),), 1, ("prices", (0, 0, 0))), False)
        self.assertIs(is_paper((1, 3), KING, ((0, 1),), 1, ("prices", (0, 0, 0))), False)

    def test_held_with_more_cells_than_most(self):
        self.assertIs(is_paper((1, 3), KING, ((0, 0), (0, 1)), 1, ("prices", (0, 0, 0))), True)
        self.assertIs(is_paper((1, 3), KING, ((0, 0), (0, 1)), 1, ("prices", (0, 0, 1))), False)
        self.assertIs(is_paper((1, 3), KING, ((0, 0), (0, 1)), 1, ("prices", (0, 0))), False)
        self.assertIs(is_paper((1, 3), EMPTY, ((0, 0), (0, 1)), 0, ("prices", (0, 0, 1000))), True)
        self.assertIs(is_paper((1, 3), EMPTY, ((0, 0), (0, 1)), 0, ("prices", (0, 0, 1001))), False)

    def test_one_by_one(self):
        chance = random.Random("prices")
        for board in ((1, 1), (1, 4), (2, 3), (8, 8), (5, 2)):
            for piece in PIECES:
                for held in some_lots(board, "prices", 3):
                    for most in sorted({0, len(held), max(len(held) - 1, 0), len(held) + 1, len(held) + 2} - {65, 66}):
                        prices = any_prices(board, piece, held, chance)
                        due = plain_prices_hold(board, piece, held, most, prices)
                        told = is_paper(board, piece, held, most, ("prices", prices))
                        self.assertIs(told, due, (board, piece, held, most, prices))

    def test_what_is_no_prices(self):
        right = (1, 0, 0, 1)
        for thing in [right[1:], (*right, 0), list(right), None, (), "1001", (1, 0, 0, 1001), (1, 0, -1, 1), {},
                      (True, 0, 0, 1), (1, False, 0, 1), (1.0, 0, 0, 1), (1, 0, 0, "1"), (1, 0, 0, None), (right,)]:
            self.assertIs(is_paper((1, 4), KING, (), 1, ("prices", thing)), False, thing)
        for thing in wrong_things():
            if thing.__class__ is not tuple or len(thing) != 4:
                self.assertIs(is_paper((1, 4), KING, (), 1, ("prices", thing)), False)
        for thing in (["prices", right], ("prices", right, ()), ("prices",), ("price", right), ("pricess", right),
                      ("Prices", right), ("PRICES", right), (right, "prices"), ("prices", *right), right):
            self.assertIs(is_paper((1, 4), KING, (), 1, thing), False, thing)


class CasesTest(unittest.TestCase):
    def test_known_ones(self):
        paper = ("cases", (0, 0), (FULL, FULL))
        self.assertIs(is_paper((1, 4), KING, (), 1, paper), True)
        self.assertIs(is_paper((1, 4), KING, (), 0, paper), True)
        self.assertIs(is_paper((1, 4), KING, (), 2, paper), False)
        self.assertIs(is_paper((1, 3), KING, (), 1, paper), False)
        self.assertIs(is_paper((1, 4), KING, ((0, 3),), 1, paper), True)
        self.assertIs(is_paper((1, 4), KING, ((0, 3),), 2, paper), False)
        self.assertIs(is_paper((1, 4), KING, ((0, 1),), 1, paper), False)

    def test_a_paper_for_each_cell_in_order(self):
        first, second = ("prices", (0, 0, 1, 0, 0, 1)), ("prices", (0, 0, 0, 1, 0, 1))
        self.assertIs(is_paper((1, 6), KING, ((0, 0),), 1, ("prices", (0, 0, 1, 0, 0, 1))), True)
        self.assertIs(is_paper((1, 6), KING, (), 1, ("cases", (0, 0), (first, second))), True)
        self.assertIs(is_paper((1, 6), KING, (), 1, ("cases", (0, 0), (second, second))), True)
        self.assertIs(is_paper((1, 6), KING, (), 1, ("cases", (0, 0), (second, first))), False)
        self.assertIs(is_paper((1, 6), KING, (), 1, ("cases", (0, 0), (first, first))), False)

    def test_a_paper_more_or_less(self):
        for papers in ((), (FULL,), (FULL,) * 3, [FULL, FULL], (FULL, ["full"]), (["full"], FULL), (FULL, None), None):
            self.assertIs(is_paper((1, 4), KING, (), 1, ("cases", (0, 0), papers)), False, papers)
        for papers in ((FULL,) * 2, (FULL,) * 4):
            self.assertIs(is_paper((1, 5), KING, (), 1, ("cases", (0, 1), papers)), False, papers)
        self.assertIs(is_paper((1, 5), KING, (), 1, ("cases", (0, 1), (FULL,) * 3)), True)

    def test_pieces_that_are_not_two_way(self):
        self.assertIs(is_paper((3, 2), DOWNWARD, (), 1, ("cases", (0, 0), (FULL,))), True)
        self.assertIs(is_paper((3, 2), DOWNWARD, (), 1, ("cases", (2, 0), (FULL,) * 3)), True)
        self.assertIs(is_paper((3, 2), DOWNWARD, (), 1, ("cases", (2, 0), (FULL,))), False)
        self.assertIs(is_paper((3, 2), DOWNWARD, (), 1, ("cases", (0, 0), (FULL,) * 3)), False)

    def test_what_is_no_unseen_cell(self):
        for cell in (None, True, 0, (0,), (0, 4), (1, 0), (-1, 0), [0, 0], (0, False), (False, 0), (0, 0, 0), ((0, 0),),
                     "0,0", (0.0, 0), {}, ()):
            self.assertIs(is_paper((1, 4), KING, (), 1, ("cases", cell, (FULL, FULL))), False, cell)
        for thing in wrong_things():
            self.assertIs(is_paper((1, 4), KING, (), 1, ("cases", thing, (FULL, FULL))), False)
            self.assertIs(is_paper((1, 4), KING, (), 1, ("cases", (0, 0), thing)), False)
            self.assertIs(is_paper((1, 4), KING, (), 1, ("cases", (0, 0), (FULL, thing))), False)
            self.assertIs(is_paper((1, 4), KING, (), 1, ("cases", (0, 0), (thing, FULL))), False)

    def test_other_words(self):
        papers = (FULL, FULL)
        right = ("cases", (0, 0), papers)
        self.assertIs(is_paper((1, 4), KING, (), 1, right), True)
        words = ("case", "casess", "Cases", "CASES", "cases ", " cases", "full", "prices", "", None)
        things = [(word, (0, 0), papers) for word in words] + [list(right), (*right, ()), right[1:], right[:2]]
        things += [(right,), ("cases", papers, (0, 0)), ("cases", ((0, 0), papers)), ("cases", 0, 0, papers)]
        for thing in things:
            self.assertIs(is_paper((1, 4), KING, (), 1, thing), False, thing)

    def test_held_with_more_cells_than_most(self):
        self.assertIs(is_paper((1, 4), KING, ((0, 3),), 0, ("cases", (0, 0), (FULL, FULL))), True)
        self.assertIs(is_paper((1, 4), KING, ((0, 0),), 0, ("cases", (0, 0), (FULL, FULL))), False)
        self.assertIs(is_paper((1, 2), EMPTY, ((0, 0),), 0, ("cases", (0, 1), (FULL,))), True)

    def test_as_deep_as_there_are_cells(self):
        cells = plain_cells((8, 8))
        paper = FULL
        for cell in reversed(cells[:63]):
            paper = ("cases", cell, (paper,))
        self.assertIs(is_paper((8, 8), EMPTY, (), 63, paper), True)
        self.assertIs(is_paper((8, 8), EMPTY, (), 64, paper), False)
        self.assertIs(is_paper((8, 8), EMPTY, (), 62, paper), True)
        self.assertIs(is_paper((8, 8), EMPTY, ((7, 7),), 63, paper), True)
        self.assertIs(is_paper((8, 8), EMPTY, ((7, 7),), 64, paper), False)
        self.assertIs(is_paper((8, 8), EMPTY, ((7, 6),), 63, paper), False)
        self.assertIs(is_paper((8, 8), EMPTY, (), 63, ("cases", (0, 0), (paper,))), False)

    def test_very_deep_things(self):
        wraps = [lambda thing: (thing,), lambda thing: ["full", thing], lambda thing: {"full": thing}]
        wraps += [lambda thing: ("cases", (0, 0), (thing,)), lambda thing: ("cases", (0, 0), (FULL, thing))]
        wraps += [lambda thing: ("prices", (thing, 0, 0, 0)), lambda thing: ("cases", thing, (FULL, FULL))]
        for depth in (50, 100, 3000):
            for wrap in wraps:
                self.assertIs(is_paper((1, 4), KING, (), 1, nested(depth, wrap, FULL)), False)
                self.assertIs(is_paper((1, 4), EMPTY, (), 1, nested(depth, wrap, FULL)), False)


class AnyPaperTest(unittest.TestCase):
    def test_papers_of_several_depths(self):
        chance = random.Random("papers")
        right = wrong = 0
        for board in ((1, 1), (1, 4), (2, 3), (3, 3), (3, 4), (1, 8), (4, 5), (8, 8)):
            for piece in (KING, ROOK, KNIGHT, EMPTY, DOWNWARD, ONE_WAY) + tuple(some_pieces("any", 4)):
                for held in ((),) + tuple(some_lots(board, "any", 4)[-3:]):
                    for most in {0, len(held), len(held) + 1, len(held) + 2} - {65, 66}:
                        paper = any_paper(board, piece, held, most, chance)
                        due = plain_is_paper(board, piece, held, most, paper)
                        self.assertIs(is_paper(board, piece, held, most, paper), due, (board, piece, held, most, paper))
                        right, wrong = right + due, wrong + (not due)
        self.assertGreater(min(right, wrong), 200)

    def test_what_is_shown_is_true(self):
        chance = random.Random("true")
        for board in ((1, 4), (2, 3), (3, 3)):
            lots = plain_lots(board)
            for piece in PIECES:
                for held in some_lots(board, "true", 2):
                    for most in range(6):
                        paper = any_paper(board, piece, held, most, chance)
                        if is_paper(board, piece, held, most, paper):
                            fitting = [lot for lot in lots if len(lot) <= most and set(held) <= set(lot)]
                            self.assertFalse(any(plain_sees_all(board, piece, lot) for lot in fitting))

    def test_one_part_exchanged(self):
        chance = random.Random("changed")
        for board, piece, most in (((1, 4), KING, 1), ((2, 3), ROOK, 1), ((2, 2), EMPTY, 3), ((3, 3), KNIGHT, 2),
                                   ((1, 7), KING, 2), ((2, 4), DOWNWARD, 3)):
            for k in range(6):
                paper = any_paper(board, piece, (), most, chance)
                for changed in changed_papers(paper):
                    due = plain_is_paper(board, piece, (), most, changed)
                    self.assertIs(is_paper(board, piece, (), most, changed), due, (board, piece, most, changed))

    def test_whatever_is_no_paper(self):
        for at, thing in enumerate(wrong_things()):
            for told in (((1, 1), KING, (), 0), ((2, 3), ROOK, ((0, 0),), 1), ((1, 1), EMPTY, ((0, 0),), 0),
                         ((8, 8), EMPTY, (), 64)):
                self.assertIs(is_paper(*told, thing), False, at)


class SomePaperTest(unittest.TestCase):
    def test_each_most_below_the_least(self):
        for board, piece in some_questions():
            for most in range(least(board, piece)):
                paper = some_paper(board, piece, most)
                self.assertIs(plain_is_paper(board, piece, (), most, paper), True, (board, piece, most))
                self.assertIs(is_paper(board, piece, (), most, paper), True, (board, piece, most))

    def test_none_from_the_least_on(self):
        for board, piece in some_questions()[::2]:
            fewest = least(board, piece)
            for most in (fewest, fewest + 1, board[0] * board[1], board[0] * board[1] + 1, 63, 64):
                self.assertIs(some_paper(board, piece, most), None, (board, piece, most))

    def test_no_paper_stands_for_the_least_itself(self):
        for board, piece in some_questions()[::3]:
            fewest = least(board, piece)
            for most in range(fewest):
                paper = some_paper(board, piece, most)
                self.assertIs(is_paper(board, piece, (), fewest, paper), False, (board, piece, most))

    def test_papers_for_another_most_or_held(self):
        for board, piece in some_questions()[::5]:
            for most in range(least(board, piece)):
                paper = some_paper(board, piece, most)
                for other in (0, most - 1, most + 1, most + 2, 64):
                    for held in some_lots(board, "held", 1):
                        if other >= 0:
                            due = plain_is_paper(board, piece, held, other, paper)
                            self.assertIs(is_paper(board, piece, held, other, paper), due, (board, piece, held, other))

    def test_one_part_exchanged(self):
        for board, piece in (((3, 4), KING), ((3, 4), ROOK), ((2, 5), KNIGHT), ((3, 3), QUEEN), ((2, 6), ONE_WAY)):
            most = least(board, piece) - 1
            for changed in changed_papers(some_paper(board, piece, most)):
                due = plain_is_paper(board, piece, (), most, changed)
                self.assertIs(is_paper(board, piece, (), most, changed), due, (board, piece, changed))


class RefusalTest(unittest.TestCase):
    def test_whatever_is_no_lot(self):
        for board in ((1, 1), (2, 3)):
            for at, thing in enumerate(no_lots(board)):
                self.assertIs(refusal(is_paper, board, KING, thing, 1, FULL), NoLot, (board, at))

    def test_whatever_is_no_number(self):
        for at, thing in enumerate(no_wholes(0, 64)):
            self.assertIs(refusal(is_paper, (1, 2), KING, (), thing, FULL), NoNumber, at)
            self.assertIs(refusal(some_paper, (1, 2), KING, thing), NoNumber, at)
            self.assertIs(refusal(some_paper, (8, 8), KING, thing), NoNumber, at)
        for most in range(65):
            self.assertIs(refusal(is_paper, (1, 2), KING, (), most, FULL), None)
            self.assertIs(refusal(some_paper, (1, 2), KING, most), None)

    def test_more_than_twelve_cells(self):
        for board in great_boards():
            for most in (0, 1, 12, 64):
                with self.assertRaises(TooGreat) as caught:
                    some_paper(board, EMPTY, most)
                self.assertEqual((caught.exception.many, caught.exception.most), (board[0] * board[1], 12))
            self.assertIs(refusal(is_paper, board, EMPTY, (), 1, FULL), None)
        for board in small_boards():
            self.assertIs(refusal(some_paper, board, KING, 0), None)

    def test_the_order_of_refusals(self):
        for thing in (FULL, None, [], ("cases", None, ())):
            places = [(right, due, wrong[:4]) for right, due, wrong in board_and_piece((2, 3), KING)]
            places += [(((0, 1),), NoLot, WRONG_LOTS), (1, NoNumber, WRONG_MOSTS), (thing, None, [])]
            self.assertEqual(misordered(is_paper, places), [])
        places = board_and_piece((2, 3), KING) + [(1, NoNumber, WRONG_MOSTS)]
        self.assertEqual(misordered(some_paper, places), [])
        places = board_and_piece((8, 8), KING) + [(1, NoNumber, WRONG_MOSTS)]
        self.assertEqual(misordered(some_paper, places, TooGreat), [])

    def test_refusals_are_sight_errors(self):
        asked = [(None, KING, (), 0, FULL), ((1, 1), None, (), 0, FULL), ((1, 1), KING, None, 0, FULL)]
        self.assertEqual(not_refused(is_paper, asked + [((1, 1), KING, (), None, FULL)]), [])
        asked = [(None, KING, 0), ((1, 1), None, 0), ((1, 1), KING, None), ((8, 8), KING, 0)]
        self.assertEqual(not_refused(some_paper, asked), [])


class HandedInTest(unittest.TestCase):
    def test_nothing_handed_in_is_changed(self):
        papers = [["cases", [0, 0], [["full"], {"full": []}]], ("cases", (0, 0), [FULL, ["full"]])]
        papers += [("cases", (0, 0), (["full"], FULL)), ("cases", [0, 0], (FULL, FULL)), ("prices", [1, 0, 0, 1])]
        self.assertIs(changed(is_paper, (1, 4), KING, (), 1, FULL, more=papers), False)
        self.assertIs(changed(some_paper, (1, 4), KING, 1), False)

    def test_the_same_answer_again(self):
        questions = [(board, piece, most) for board, piece in some_questions()[::7] for most in range(4)]
        first = [some_paper(*told) for told in questions]
        again = [some_paper(*told) for told in reversed(questions)]
        self.assertEqual(first, again[::-1])


if __name__ == "__main__":
    unittest.main()
