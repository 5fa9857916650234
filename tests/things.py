"""Things of every kind to hand in, and what a call refuses with.

None of them is a board, a piece or the name of one; some are cells or lots.
"""

import copy
import itertools

from seeall.errors import NoBoard, NoPiece, SightError
from tests.plain import plain_cells, plain_is_lot

GREAT = 10 ** 30 - 1
NO_NUMBERS = (True, False, None, "0", "", [], [0], (), (0,), {}, 0.0, b"0")

WRAPS = (
    lambda thing: [thing],
    lambda thing: (thing,),
    lambda thing: (0, thing),
    lambda thing: (thing, ()),
    lambda thing: ((), thing),
    lambda thing: {"a": thing},
)


def nested(depth, wrap, inmost):
    thing = inmost
    for k in range(depth):
        thing = wrap(thing)
    return thing


def nested_things():
    """Things as deep as point [2] tells, and somewhat deeper."""
    inmosts = (1, None, True, "king", (1, 1), ((), ()))
    depths = (1, 2, 3, 99, 100, 120)
    return [nested(depth, wrap, inmost) for depth in depths for wrap in WRAPS for inmost in inmosts]


def wide_things():
    """Things of as many parts as point [2] tells, and somewhat more."""
    return [
        list(range(10000)),
        tuple(range(10000)),
        ((1, 1),) * 10001,
        ([],) * 9999,
        {k: k for k in range(5000)},
        (tuple((1, k) for k in range(1, 3000)), ()),
        ((), tuple((1, k) for k in range(1, 3000))),
        "k" * 500,
        "king" * 200,
    ]


def plain_things():
    return [
        None, True, False, 0, 1, 2, 8, -1, GREAT, -GREAT,
        "", " ", "(1, 1)", "11", "((), ())", "\t", "\n", "~",
        [], {}, (), [1, 1], [[], []], {1: 1}, {0: 1, 1: 1}, {"high": 1, "wide": 1},
        (None, None), ("1", "1"), ("", ""), ({}, {}), (None, ()), ((), None),
        ([], []), ([], ()), ((), []), ({}, ()), ((), {}), ("", ()), ((), ""),
        (0, ()), ((), 0), (True, ()), ((), False), ((),), ((), (), ()),
    ]


def told_things():
    """Things of the kinds that point [2] names for "of anything"."""
    return plain_things() + nested_things() + wide_things()


def strange_things():
    """Things of further kinds: a refusal is due of a thing of whatever kind."""
    return [
        1.0, (1.0, 1.0), (1, 1.0), (2.5, 1), float("nan"), 1j, b"", b"king", b"11", bytearray(b"11"),
        set(), {1}, frozenset(), frozenset({1, 2}), range(2), range(1, 3), object(), int, tuple, len,
        (object(), object()), (((1.0, 1.0),), ()), (frozenset(), frozenset()), (range(0), range(0)),
        iter((1, 1)), Ellipsis, NotImplemented, ValueError("king"),
    ]


def wrong_things():
    return told_things() + strange_things()


def refusal(call, *told):
    """The very class that the call refuses with, None where it answers."""
    try:
        call(*told)
    except Exception as why:
        return why.__class__
    return None


def not_refused(call, questions):
    """The questions that the call does not refuse with what is a SightError and a ValueError."""
    kinds = [refusal(call, *told) or object for told in questions]
    return [kind for kind in kinds if not issubclass(kind, SightError) or not issubclass(kind, ValueError)]


def changed(call, *rights, more=()):
    """Whether the call changes anything that is handed in at any place, the others right."""
    things = told_things() + list(more)
    before = copy.deepcopy(things)
    for thing in things:
        for at in range(len(rights)):
            refusal(call, *rights[:at], thing, *rights[at + 1:])
    return things != before


NO_BOARDS = [None, True, (0, 1), (1, 9), (True, 1), [1, 1], "1 1", {}, (1, 1, 1)]
NO_PIECES = [None, False, (), ((),), [(), ()], (((0, 0),), ()), ((), ((4, 0),)), "king", {}, ((), [])]
# Of the board (2, 3).
NO_LOTS = [None, True, "", [], {}, ((2, 0),), ((0, 1), (0, 0)), ((0, 0), (0, 0)), ([0, 0],), (0, 0), ((0, True),)]


def board_and_piece(board, piece):
    """The first two places of most calls, as misordered takes them."""
    return [(board, NoBoard, NO_BOARDS), (piece, NoPiece, NO_PIECES)]


def misordered(call, places, last=None):
    """The mixes of right and wrong things for which the call does not refuse as the leftmost wrong one asks.

    Of each place: the right thing, the class of its refusal, and wrong things. With nothing wrong, last is due.
    """
    faults = []
    choices = [[(right, None)] + [(wrong, due) for wrong in wrongs] for right, due, wrongs in places]
    for mix in itertools.product(*choices):
        due = ([due for thing, due in mix if due is not None] + [last])[0]
        if refusal(call, *[thing for thing, due in mix]) is not due:
            faults.append((mix, due))
    return faults


def shorter(places, many):
    """The same places, each with so many of its wrong things, where all of them mixed are too many."""
    return [(right, due, wrongs[:many]) for right, due, wrongs in places]


def no_wholes(low, high):
    """What is no whole number from low to high."""
    numbers = [low - 1, high + 1, low - 2, high + 2, -GREAT, GREAT, True, False, "0", "1", str(low), [low], (high,)]
    others = [thing for thing in wrong_things() if thing.__class__ is not int]
    return numbers + others + [float(low), float(high), {low: low}, [[low]], f" {high}"]


def no_cells(board):
    """What is no cell of the board."""
    high, wide = board
    cells = [repr(cell) for cell in plain_cells(board)]
    things = [thing for thing in wrong_things() if repr(thing) not in cells]
    for beyond in (-1, -2, -8, 8, 9, GREAT, -GREAT):
        things += [(beyond, 0), (0, beyond), (beyond, beyond), (beyond, wide - 1), (high - 1, beyond)]
    things += [(high, 0), (0, wide), (high, wide), (high, wide - 1), (high - 1, wide)]
    for wrong in NO_NUMBERS:
        things += [(wrong, 0), (0, wrong), (wrong, wrong)]
    for row, column in plain_cells(board):
        things += [[row, column], (row,), (row, column, 0), (0, row, column), ((row, column),), [(row, column)]]
        things += [f"{row},{column}", {row: column}, {(row, column): True}, row]
    return things


def with_a_wrong_cell(board):
    """Tuples that would be lots, were one of their parts a cell of the board."""
    high, wide = board
    cells = plain_cells(board)
    first, last = cells[0], cells[-1]
    things = []
    for wrong in no_cells(board):
        things += [(wrong,), (first, wrong), (wrong, last), (*cells, wrong)]
    for row, column in cells:
        others = [cell for cell in cells if cell < (row, column)]
        for wrong in ([row, column], (row, column, 0), (row,), ((row, column),), (float(row), column)):
            things += [(*others, wrong), (wrong,)]
    things += [tuple((bool(row), column) for row, column in cells), tuple((row, False) for row in range(high))]
    return things


def no_lots(board):
    """What is no lot of the board."""
    cells = plain_cells(board)
    things = [thing for thing in wrong_things() if not plain_is_lot(board, thing)] + with_a_wrong_cell(board)
    for many in range(len(cells) + 1):
        lot = tuple(cells[:many])
        things += [list(lot), [list(cell) for cell in lot], {cell: True for cell in lot}, [lot], (lot,), repr(lot)]
        things += [frozenset(lot), (*lot, ()), (*lot, None), ((), *lot), (lot, lot)]
    for at, cell in enumerate(cells):
        things += [cell, (cell, cell), (*cells[:at + 1], cell), (*cells[:at], cell, *cells[at:])]
        if at > 0:
            things += [(cell, cells[at - 1]), (*cells[:at - 1], cell, cells[at - 1], *cells[at + 1:])]
            things += [(cell, cells[0]), (*cells[at:], *cells[:at])]
    return [thing for thing in things if not plain_is_lot(board, thing)]
