"""Reckonings one by one, for the program's answers to be held against. Nothing of the program is used here."""

import functools
import itertools
import random

SIZES = range(1, 9)
NUMBERS = range(-3, 4)
STEPS = [(down, right) for down in NUMBERS for right in NUMBERS if (down, right) != (0, 0)]
AROUND = tuple(step for step in STEPS if max(abs(step[0]), abs(step[1])) == 1)
STRAIGHT = tuple(step for step in AROUND if 0 in step)
SLANTING = tuple(step for step in AROUND if 0 not in step)
CROOKED = tuple(step for step in STEPS if sorted([abs(step[0]), abs(step[1])]) == [1, 2])

EMPTY = ((), ())
KING = (AROUND, ())
QUEEN = ((), AROUND)
ROOK = ((), STRAIGHT)
BISHOP = ((), SLANTING)
KNIGHT = (CROOKED, ())
NAMED = (KING, QUEEN, ROOK, BISHOP, KNIGHT)
ONE_WAY = (((-3, 3), (0, 1), (2, -1)), ((-1, 0), (1, 2)))
DOWNWARD = ((), ((1, 0),))
OTHERS = (
    EMPTY, ONE_WAY, DOWNWARD,
    (((0, 1),), ()), (((-1, 0), (0, 1)), ()), (((3, 3),), ()), (((-3, -3), (3, 3)), ()),
    ((), ((0, 1),)), ((), ((-1, -1), (0, 2))), ((), ((0, -3), (0, 3), (3, 0))), ((), ((2, 2),)), ((), ((-2, 3),)),
    (((0, 2),), ((0, 1),)), (((0, 1),), ((0, 2),)), ((), ((0, 1), (0, 2), (0, 3))),
    (STRAIGHT, SLANTING), (SLANTING, STRAIGHT), (AROUND, AROUND), (CROOKED, STRAIGHT),
    (((-1, 0), (1, 0)), ((0, -2), (0, 2))), (tuple(STEPS[:8]), tuple(STEPS[-8:])), (tuple(STEPS[::7]), ((-1, 3),)),
)
PIECES = NAMED + OTHERS


def all_boards():
    return [(high, wide) for high in SIZES for wide in SIZES]


def small_boards(most=12):
    return [(high, wide) for high, wide in all_boards() if high * wide <= most]


def great_boards():
    return [board for board in all_boards() if board not in small_boards()]


def some_pieces(seed, many):
    """Pieces of any leaps and runs, the same ones for the same seed."""
    chance = random.Random(seed)
    pieces = []
    for k in range(many):
        leaps, runs = [tuple(sorted(chance.sample(STEPS, chance.randrange(5)))) for part in range(2)]
        pieces.append((leaps, runs))
    return pieces


def plain_cells(board):
    return [(row, column) for row in range(board[0]) for column in range(board[1])]


def plain_sees(piece, cell, other):
    """Whether a piece on the cell sees the other one, board or no board."""
    leaps, runs = piece
    way = (other[0] - cell[0], other[1] - cell[1])
    return way == (0, 0) or way in leaps or any(
        way == (times * down, times * right) for down, right in runs for times in range(1, 9))


@functools.lru_cache(maxsize=None)
def plain_sight(board, piece, cell):
    return tuple(other for other in plain_cells(board) if plain_sees(piece, cell, other))


def plain_seers(board, piece, cell):
    return tuple(other for other in plain_cells(board) if plain_sees(piece, other, cell))


def plain_often(board, piece, lot):
    """Each cell, and how many pieces of the lot see it."""
    cells = [cell for standing in lot for cell in plain_sight(board, piece, standing)]
    return {cell: cells.count(cell) for cell in plain_cells(board)}


def plain_seen(board, piece, lot):
    return tuple(sorted({cell for standing in lot for cell in plain_sight(board, piece, standing)}))


def plain_sees_all(board, piece, lot):
    return plain_seen(board, piece, lot) == tuple(plain_cells(board))


def plain_without(lot, cell):
    return tuple(other for other in lot if other != cell)


def plain_is_lean(board, piece, lot):
    return plain_sees_all(board, piece, lot) and not any(
        plain_sees_all(board, piece, plain_without(lot, cell)) for cell in lot)


def plain_lots(board):
    """All lots of the board, rising."""
    cells = plain_cells(board)
    return sorted(lot for many in range(len(cells) + 1) for lot in itertools.combinations(cells, many))


def plain_lots_that_see_all(board, piece):
    return [lot for lot in plain_lots(board) if plain_sees_all(board, piece, lot)]


def plain_is_lot(board, thing):
    """Of anything; told apart by how the parts are written, so that 1, True and 1.0 are three things."""
    if thing.__class__ is not tuple:
        return False
    written = [repr(cell) for cell in plain_cells(board)]
    parts = [repr(part) for part in thing]
    if any(part not in written for part in parts):
        return False
    places = [written.index(part) for part in parts]
    return places == sorted(set(places))


def some_lots(board, seed, many):
    """Lots of the board with few and with many cells, the same ones for the same seed."""
    chance = random.Random(f"{board} {seed}")
    cells = plain_cells(board)
    lots = [(), tuple(cells), (cells[0],), (cells[-1],)]
    for k in range(many):
        lots.append(tuple(sorted(chance.sample(cells, chance.randrange(len(cells) + 1)))))
    return lots


def plain_is_apart(board, piece, lot):
    return not any(plain_sees(piece, cell, other) for cell in lot for other in plain_without(lot, cell))


def plain_is_watched(board, piece, lot):
    return plain_sees_all(board, piece, lot) and all(
        any(plain_sees(piece, other, cell) for other in plain_without(lot, cell)) for cell in lot)


def plain_first_fewest(lots):
    """The first of the lots of fewest cells, None where there is none."""
    return sorted(lots, key=lambda lot: (len(lot), lot))[0] if lots else None
