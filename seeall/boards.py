"""Boards and their cells [10]."""

from seeall.errors import NoBoard, NoCell, TooGreat
from seeall.shapes import is_couple, is_rising, is_whole, is_whole_couple

LONGEST = 8
SMALL = 12


def is_board(thing):
    """Tell of anything whether it is a board (high, wide)."""
    return is_whole_couple(thing, 1, LONGEST)


def check_board(board):
    """Refuse with NoBoard what is no board."""
    if not is_board(board):
        raise NoBoard("a board is a tuple of two whole numbers, each from 1 to 8")


def cells_of(board):
    """Tell the rising list of the board's cells."""
    check_board(board)
    high, wide = board
    return [(row, column) for row in range(high) for column in range(wide)]


def many_cells(board):
    """Tell how many cells the board has."""
    high, wide = board
    return high * wide


def check_small(board):
    """Refuse with TooGreat a board of more cells than a small one has."""
    many = many_cells(board)
    if many > SMALL:
        raise TooGreat(many, SMALL)


def is_cell(board, thing):
    """Tell of anything whether it is a cell (row, column) of the board."""
    high, wide = board
    return is_couple(thing) and is_whole(thing[0], 0, high - 1) and is_whole(thing[1], 0, wide - 1)


def check_cell(board, cell):
    """Refuse with NoCell what is no cell of the board."""
    if not is_cell(board, cell):
        raise NoCell("a cell is a tuple (row, column) of two whole numbers within the board")


def are_rising_cells(board, thing):
    """Tell of anything whether it is a rising tuple of cells of the board."""
    if not isinstance(thing, tuple):
        return False
    # Only cells are compared: other things may have no order among them.
    return all([is_cell(board, cell) for cell in thing]) and is_rising(thing)
