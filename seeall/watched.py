"""Lots of pieces that are seen, and how often cells are [60], [61]."""

from seeall.boards import cells_of, check_small, many_cells
from seeall.lots import check_standing, times_seen
from seeall.shapes import check_whole
from seeall.sights import check_board_and_piece, place_of, view_places

MOST_OFTEN = 64


def how_often(board, piece, lot):
    """Tell, cell by cell of the board, how many pieces of the lot see the cell."""
    check_standing(board, piece, lot)
    times = times_seen(board, piece, lot)
    return [times[cell] for cell in times]


def sees_often(board, piece, lot, many):
    """Tell whether each cell is seen by so many pieces of the lot at least."""
    counts = how_often(board, piece, lot)
    check_whole(many, 1, MOST_OFTEN)
    return min(counts) >= many


def are_watched(board, lot, counts):
    """Tell whether, by how often each cell is seen, the lot sees all cells and others each of its own."""
    # A piece sees its own cell: one that another one sees is seen twice.
    return min(counts) >= 1 and all([counts[place_of(board, cell)] >= 2 for cell in lot])


def is_watched(board, piece, lot):
    """Tell whether the lot sees all cells, and each cell of it is seen from another one of it."""
    return are_watched(board, lot, how_often(board, piece, lot))


def lots_with_counts(board, piece):
    """Tell all lots of a small board, rising, each with how often the board's cells are seen."""
    check_small(board)
    many = many_cells(board)
    lots = [((), [0] * many)]
    for cell, places in zip(cells_of(board), view_places(board, piece)):
        more = [1 if place in places else 0 for place in range(many)]
        lots = lots + [((*lot, cell), [a + b for a, b in zip(counts, more)]) for lot, counts in lots]
    return sorted(lots)


def first_watched(board, piece):
    """Tell the first of the watched lots of fewest cells, None where none is watched."""
    check_board_and_piece(board, piece)
    lots = lots_with_counts(board, piece)
    return min([lot for lot, counts in lots if are_watched(board, lot, counts)], key=len, default=None)


def least_watched(board, piece):
    """Tell the fewest cells of a watched lot, None where none is watched."""
    lot = first_watched(board, piece)
    return None if lot is None else len(lot)


def least_often(board, piece, many):
    """Tell the fewest cells of a lot that sees each cell so often, None where none does."""
    check_board_and_piece(board, piece)
    check_whole(many, 1, MOST_OFTEN)
    lots = lots_with_counts(board, piece)
    return min([len(lot) for lot, counts in lots if min(counts) >= many], default=None)
