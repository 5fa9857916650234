"""Lots of cells, what they see, and how they are filled [20], [22]."""

from seeall.boards import are_rising_cells, cells_of, check_board
from seeall.errors import NoLot
from seeall.sights import check_board_and_piece, view


def is_lot(board, thing):
    """Tell of anything whether it is a lot: a rising tuple of cells of the board."""
    check_board(board)
    return are_rising_cells(board, thing)


def check_lot(board, lot):
    """Refuse with NoLot what is no lot of the board."""
    if not is_lot(board, lot):
        raise NoLot("a lot is a rising tuple of cells of the board")


def check_standing(board, piece, lot):
    """Refuse with NoBoard, then with NoPiece, then with NoLot."""
    check_board_and_piece(board, piece)
    check_lot(board, lot)


def times_seen(board, piece, lot):
    """Tell for each cell, in their order, how many pieces of the lot see it."""
    times = {cell: 0 for cell in cells_of(board)}
    for standing in lot:
        for cell in view(board, piece, standing):
            times[cell] += 1
    return times


def seen(board, piece, lot):
    """Tell the rising tuple of the cells that some piece of the lot sees."""
    check_standing(board, piece, lot)
    times = times_seen(board, piece, lot)
    return tuple([cell for cell in times if times[cell] > 0])


def unseen(board, piece, lot):
    """Tell the rising tuple of the cells that no piece of the lot sees."""
    check_standing(board, piece, lot)
    times = times_seen(board, piece, lot)
    return tuple([cell for cell in times if times[cell] == 0])


def sees_all(board, piece, lot):
    """Tell whether the lot sees all cells."""
    return unseen(board, piece, lot) == ()


def filled(board, piece, lot):
    """Tell the lot with the first cell that is not seen put to it, as long as there is one."""
    check_standing(board, piece, lot)
    times = times_seen(board, piece, lot)
    cells = list(lot)
    # A cell that is seen stays so: the first unseen one is never ahead of one that was passed.
    for cell in cells_of(board):
        if times[cell] == 0:
            cells.append(cell)
            for other in view(board, piece, cell):
                times[other] += 1
    return tuple(sorted(cells))
