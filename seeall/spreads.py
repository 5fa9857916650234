"""Spreads: lots of which no two cells are seen from one cell [40]."""

from seeall.boards import cells_of, check_small
from seeall.lots import is_lot
from seeall.pieces import contrary
from seeall.sights import check_board_and_piece, view, view_bits


def is_spread(board, piece, thing):
    """Tell of anything whether it is a lot such that from no cell two of its cells are seen."""
    check_board_and_piece(board, piece)
    if not is_lot(board, thing):
        return False
    other_way = contrary(piece)
    watchers = []
    for cell in thing:
        watchers.extend(view(board, other_way, cell))
    return len(set(watchers)) == len(watchers)


def some_spread(board, piece):
    """Tell a spread of a small board with as many cells as any."""
    check_board_and_piece(board, piece)
    check_small(board)
    spreads = [((), 0)]
    for cell, watchers in zip(cells_of(board), view_bits(board, contrary(piece))):
        spreads = spreads + [((*lot, cell), taken | watchers) for lot, taken in spreads if (taken & watchers) == 0]
    return max([lot for lot, taken in spreads], key=len)
