"""Lots that are lean, and how lots are thinned [21]."""

from seeall.boards import check_cell
from seeall.errors import NoCell, NoSight
from seeall.lots import check_standing, sees_all, times_seen
from seeall.sights import view


def seen_once(board, piece, cell, times):
    """Tell the cells that the piece sees from the cell and that are seen one time alone."""
    return tuple([other for other in view(board, piece, cell) if times[other] == 1])


def alone(board, piece, lot, cell):
    """Tell the rising tuple of the cells that the piece on the cell sees and no other one of the lot."""
    check_standing(board, piece, lot)
    check_cell(board, cell)
    if cell not in lot:
        raise NoCell("the cell is none of the lot")
    return seen_once(board, piece, cell, times_seen(board, piece, lot))


def is_lean(board, piece, lot):
    """Tell whether the lot sees all cells, and without any one of its cells does not."""
    if not sees_all(board, piece, lot):
        return False
    times = times_seen(board, piece, lot)
    return all([seen_once(board, piece, cell, times) != () for cell in lot])


def thinned(board, piece, lot):
    """Tell what stays of the lot when, from the last cell to the first, each that can be spared is left out."""
    if not sees_all(board, piece, lot):
        raise NoSight("the lot does not see all cells")
    times = times_seen(board, piece, lot)
    kept = []
    for cell in reversed(lot):
        if seen_once(board, piece, cell, times) != ():
            kept.append(cell)
        else:
            for other in view(board, piece, cell):
                times[other] -= 1
    return tuple(reversed(kept))
