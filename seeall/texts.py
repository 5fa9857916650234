"""Lots and pieces written and read [100]."""

from seeall.boards import cells_of, check_board, is_board
from seeall.errors import NoText
from seeall.lots import check_lot
from seeall.pieces import FARTHEST, check_piece, is_piece, is_step

OF_LOT = "#"
NOT_OF_LOT = "."
BEFORE_LEAPS = "leaps"
BEFORE_RUNS = "runs"


def lot_text(board, lot):
    """Tell the lot as it is written, row by row of the board."""
    check_board(board)
    check_lot(board, lot)
    high, wide = board
    rows = [[OF_LOT if (row, column) in lot else NOT_OF_LOT for column in range(wide)] for row in range(high)]
    return "/".join(["".join(signs) for signs in rows])


def step_text(step):
    """Tell the step as it is written."""
    down, right = step
    return f"{down},{right}"


def piece_text(piece):
    """Tell the piece as it is written."""
    check_piece(piece)
    leaps, runs = piece
    words = [BEFORE_LEAPS] + [step_text(step) for step in leaps] + [BEFORE_RUNS] + [step_text(step) for step in runs]
    return " ".join(words)


def check_text(text):
    """Refuse with NoText what is no text."""
    if not isinstance(text, str):
        raise NoText("what is read is a text")


def are_rows(rows):
    """Tell whether the texts are rows of a board, equally long, with the signs of a lot alone."""
    wide = len(rows[0])
    if not is_board((len(rows), wide)) or any([len(row) != wide for row in rows]):
        return False
    return all([sign in (OF_LOT, NOT_OF_LOT) for row in rows for sign in row])


def read_lot(text):
    """Tell the tuple (board, lot) that the text writes."""
    check_text(text)
    rows = text.split("/")
    if not are_rows(rows):
        raise NoText("the text writes no lot")
    board = (len(rows), len(rows[0]))
    return (board, tuple([(row, column) for row, column in cells_of(board) if rows[row][column] == OF_LOT]))


def steps_by_text():
    """Tell for each step as it is written the step."""
    numbers = list(range(-FARTHEST, FARTHEST + 1))
    couples = [(down, right) for down in numbers for right in numbers]
    return {step_text(step): step for step in couples if is_step(step)}


def read_steps(words):
    """Tell the tuple of the steps that the words write."""
    known = steps_by_text()
    # Looked up as a whole word: figures may be written otherwise too, as int() takes them.
    if any([word not in known for word in words]):
        raise NoText("a step is written as its two numbers with , between")
    return tuple([known[word] for word in words])


def read_piece(text):
    """Tell the piece that the text writes."""
    check_text(text)
    words = text.split(" ")
    if words[0] != BEFORE_LEAPS or BEFORE_RUNS not in words:
        raise NoText("a piece is written as leaps, its leaps, runs, and its runs")
    at = words.index(BEFORE_RUNS)
    piece = (read_steps(words[1:at]), read_steps(words[at + 1:]))
    if not is_piece(piece):
        raise NoText("the steps written are not those of a piece")
    return piece
