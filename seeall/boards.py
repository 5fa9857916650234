"""Boards and their cells [10]."""

from seeall.errors import NoBoard
from seeall.shapes import is_whole_couple

LONGEST = 8


def is_board(thing):
    """Tell of anything whether it is a board (high, wide)."""
    return is_whole_couple(thing, 1, LONGEST)


def check_board(board):
    """Refuse with NoBoard what is no board."""
    if not is_board(board):
        raise NoBoard("a board is a tuple of two whole numbers, each from 1 to 8")


def cells_of(board):
    """Tell the rising list of the board's cells."""
    check_board(board)
    high, wide = board
    return [(row, column) for row in range(high) for column in range(wide)]
