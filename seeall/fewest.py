"""The fewest cells that see all, on small boards, all lots gone through [30], [31]."""

from seeall.boards import cells_of, check_small, many_cells
from seeall.shapes import check_whole
from seeall.sights import check_board_and_piece, view_bits


def lots_that_see_all(board, piece):
    """Tell the rising list of the lots of a small board that see all cells."""
    check_small(board)
    cells = cells_of(board)
    everything = (1 << len(cells)) - 1
    lots = [((), 0)]
    for cell, bits in zip(cells, view_bits(board, piece)):
        lots = lots + [((*lot, cell), seen | bits) for lot, seen in lots]
    return sorted([lot for lot, seen in lots if seen == everything])


def all_least(board, piece):
    """Tell the rising list of the lots of fewest cells that see all cells."""
    check_board_and_piece(board, piece)
    lots = lots_that_see_all(board, piece)
    fewest = min([len(lot) for lot in lots])
    return [lot for lot in lots if len(lot) == fewest]


def first_least(board, piece):
    """Tell the first of the lots of fewest cells that see all cells."""
    return all_least(board, piece)[0]


def least(board, piece):
    """Tell the fewest cells that a lot has that sees all cells."""
    return len(first_least(board, piece))


def tally(board, piece):
    """Tell, at place k, how many lots of k cells see all cells."""
    check_board_and_piece(board, piece)
    counts = [0] * (many_cells(board) + 1)
    for lot in lots_that_see_all(board, piece):
        counts[len(lot)] += 1
    return counts


def many_lots(board, piece, many):
    """Tell how many lots of so many cells see all cells."""
    check_board_and_piece(board, piece)
    check_whole(many, 0, many_cells(board))
    return tally(board, piece)[many]


def with_one_less(lot):
    """Tell what is left of the lot when one of its cells is left out, for each of them."""
    return [lot[:at] + lot[at + 1:] for at in range(len(lot))]


def all_lean(board, piece):
    """Tell the rising list of all lean lots."""
    check_board_and_piece(board, piece)
    lots = lots_that_see_all(board, piece)
    whole = {lot: True for lot in lots}
    return [lot for lot in lots if not any([one_less in whole for one_less in with_one_less(lot)])]
