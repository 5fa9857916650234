"""Lots of pieces that do not see one another [50], [51]."""

from seeall.boards import cells_of, check_small
from seeall.lots import is_lot, times_seen
from seeall.pieces import contrary
from seeall.sights import check_board_and_piece, view_bits


def is_apart(board, piece, thing):
    """Tell of anything whether it is a lot of which no piece sees the cell of another one."""
    check_board_and_piece(board, piece)
    if not is_lot(board, thing):
        return False
    times = times_seen(board, piece, thing)
    # Each piece sees its own cell: that it is seen just once means that no other one does.
    return all([times[cell] == 1 for cell in thing])


def near_bits(board, piece):
    """Tell for each cell the bits of the cells that it sees or is seen from."""
    return [sees | seen for sees, seen in zip(view_bits(board, piece), view_bits(board, contrary(piece)))]


def taken(board, piece):
    """Tell the lot for which, going through all cells, each is taken that is apart from those taken ahead."""
    check_board_and_piece(board, piece)
    cells = []
    barred = 0
    for place, (cell, near) in enumerate(zip(cells_of(board), near_bits(board, piece))):
        if (barred >> place) & 1 == 0:
            cells.append(cell)
            barred = barred | near
    return tuple(cells)


def apart_lots(board, piece):
    """Tell all apart lots of a small board, rising, each with the bits of the cells that it sees."""
    check_small(board)
    views = view_bits(board, piece)
    lots = [((), 0, 0)]
    for place, (cell, near) in enumerate(zip(cells_of(board), near_bits(board, piece))):
        lots = lots + [
            ((*lot, cell), seen | views[place], barred | near)
            for lot, seen, barred in lots if (barred >> place) & 1 == 0
        ]
    return sorted([(lot, seen) for lot, seen, barred in lots])


def first_apart(board, piece):
    """Tell the first of the apart lots of fewest cells that see all cells, None where none does."""
    check_board_and_piece(board, piece)
    lots = apart_lots(board, piece)
    everything = (1 << len(cells_of(board))) - 1
    return min([lot for lot, seen in lots if seen == everything], key=len, default=None)


def least_apart(board, piece):
    """Tell the fewest cells of an apart lot that sees all cells, None where none does."""
    lot = first_apart(board, piece)
    return None if lot is None else len(lot)


def all_most_apart(board, piece):
    """Tell the rising list of all apart lots of most cells."""
    check_board_and_piece(board, piece)
    lots = [lot for lot, seen in apart_lots(board, piece)]
    most = max([len(lot) for lot in lots])
    return [lot for lot in lots if len(lot) == most]


def most_apart(board, piece):
    """Tell the most cells of an apart lot."""
    return len(all_most_apart(board, piece)[0])
