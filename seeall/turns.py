"""The eight turns of a board: boards, cells, lots and pieces turned [80]."""

from seeall.boards import check_board, check_cell
from seeall.errors import NoTurn
from seeall.lots import check_lot
from seeall.pieces import check_piece
from seeall.shapes import is_whole

TURNS = 8
QUARTERS = 4


def check_turn(turn):
    """Refuse with NoTurn what is no turn."""
    if not is_whole(turn, 0, TURNS - 1):
        raise NoTurn("a turn is a whole number from 0 to 7")


def is_mirroring(turn):
    """Tell whether the board is first mirrored by the turn."""
    return turn >= QUARTERS


def quarters_of(turn):
    """Tell by how many quarters the turn turns the board."""
    return turn % QUARTERS


def turned_board(board, turn):
    """Tell the board turned."""
    check_board(board)
    check_turn(turn)
    high, wide = board
    return (high, wide) if quarters_of(turn) in (0, 2) else (wide, high)


def moved_cell(board, turn, cell):
    """Tell to where the turn leads the cell, looking at no refusal."""
    high, wide = board
    row, column = cell
    if is_mirroring(turn):
        column = wide - 1 - column
    for quarter in range(quarters_of(turn)):
        row, column = column, high - 1 - row
        high, wide = wide, high
    return (row, column)


def turned_cell(board, turn, cell):
    """Tell the cell turned."""
    check_board(board)
    check_turn(turn)
    check_cell(board, cell)
    return moved_cell(board, turn, cell)


def turned_lot(board, turn, lot):
    """Tell the lot turned, rising."""
    check_board(board)
    check_turn(turn)
    check_lot(board, lot)
    return tuple(sorted([moved_cell(board, turn, cell) for cell in lot]))


def moved_step(turn, step):
    """Tell what the step becomes by the turn."""
    down, right = step
    if is_mirroring(turn):
        right = -right
    for quarter in range(quarters_of(turn)):
        down, right = right, -down
    return (down, right)


def turned_piece(piece, turn):
    """Tell the piece turned, its leaps and its runs rising."""
    check_piece(piece)
    check_turn(turn)
    leaps, runs = [tuple(sorted([moved_step(turn, step) for step in steps])) for steps in piece]
    return (leaps, runs)
