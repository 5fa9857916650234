"""Pieces of several kinds that stand in one another's way [90], [91]."""

from seeall.boards import check_board, check_cell, is_cell
from seeall.errors import NoCell, NoPiece, NoPlacing
from seeall.pieces import is_piece
from seeall.shapes import is_rising, is_whole
from seeall.sights import after, rising_cells, run_from, view

MOST_KINDS = 3


def are_kinds(thing):
    """Tell of anything whether it is kinds: a tuple of one to three pieces."""
    return isinstance(thing, tuple) and 1 <= len(thing) <= MOST_KINDS and all([is_piece(kind) for kind in thing])


def check_board_and_kinds(board, kinds):
    """Refuse with NoBoard, then with NoPiece."""
    check_board(board)
    if not are_kinds(kinds):
        raise NoPiece("kinds are a tuple of one to three pieces")


def is_placed(board, kinds, thing):
    """Tell of anything whether it is a tuple (row, column, number) of a cell and the number of a kind."""
    if not isinstance(thing, tuple) or len(thing) != 3:
        return False
    return is_cell(board, thing[:2]) and is_whole(thing[2], 0, len(kinds) - 1)


def is_placing(board, kinds, thing):
    """Tell of anything whether it is a placing: a rising tuple of such, no two with the same cell."""
    check_board_and_kinds(board, kinds)
    if not isinstance(thing, tuple) or not all([is_placed(board, kinds, placed) for placed in thing]):
        return False
    # Where the cells rise for themselves, no two are the same, and the numbers behind them do not matter.
    return is_rising([placed[:2] for placed in thing])


def check_placing(board, kinds, placing):
    """Refuse with NoBoard, then with NoPiece, then with NoPlacing."""
    if not is_placing(board, kinds, placing):
        raise NoPlacing("a placing is a rising tuple of tuples (row, column, number), each cell once")


def standing_on(kinds, placing):
    """Tell for each cell on which a piece stands, rising, that piece."""
    return {(row, column): kinds[number] for row, column, number in placing}


def up_to_first(cells, standing):
    """Tell the cells up to the first one on which a piece stands, and this one with them."""
    for at, cell in enumerate(cells):
        if cell in standing:
            return cells[:at + 1]
    return cells


def view_so(board, standing, cell):
    """Tell the rising tuple of the cells that the piece on the cell sees, others in its way."""
    leaps, runs = standing[cell]
    places = [cell] + [after(cell, step) for step in leaps]
    for step in runs:
        places.extend(up_to_first(run_from(board, cell, step), standing))
    return rising_cells(board, places)


def seen_so(board, kinds, placing):
    """Tell the rising tuple of the cells that some piece sees, others in its way."""
    check_placing(board, kinds, placing)
    standing = standing_on(kinds, placing)
    return rising_cells(board, [place for cell in standing for place in view_so(board, standing, cell)])


def hidden(board, kinds, placing):
    """Tell the rising tuple of the cells that are seen only where no piece is in another one's way."""
    seen = seen_so(board, kinds, placing)
    standing = standing_on(kinds, placing)
    places = [place for cell in standing for place in view(board, standing[cell], cell)]
    return rising_cells(board, [place for place in places if place not in seen])


def sight_so(board, kinds, placing, cell):
    """Tell the rising tuple of the cells that the piece on the cell sees, others in its way."""
    check_placing(board, kinds, placing)
    check_cell(board, cell)
    standing = standing_on(kinds, placing)
    if cell not in standing:
        raise NoCell("no piece stands on the cell")
    return view_so(board, standing, cell)
