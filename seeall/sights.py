"""What a piece on a cell sees, and from where it sees a cell [12]."""

from seeall.boards import cells_of, check_board, check_cell, is_cell
from seeall.pieces import check_piece, contrary


def check_board_and_piece(board, piece):
    """Refuse with NoBoard, then with NoPiece, as each function with both does."""
    check_board(board)
    check_piece(piece)


def after(cell, step):
    """Tell to where the step leads from the cell, on the board or beyond it."""
    row, column = cell
    down, right = step
    return (row + down, column + right)


def run_from(board, cell, step):
    """Tell the cells to which the step leads as a run, the nearest one first."""
    cells = []
    place = after(cell, step)
    while is_cell(board, place):
        cells.append(place)
        place = after(place, step)
    return cells


def rising_cells(board, places):
    """Tell the rising tuple of those of the places that are cells of the board, each once."""
    return tuple(sorted({place for place in places if is_cell(board, place)}))


def view(board, piece, cell):
    """Tell the rising tuple of the cells that the piece sees from the cell, looking at no refusal."""
    leaps, runs = piece
    places = [cell] + [after(cell, step) for step in leaps]
    for step in runs:
        places.extend(run_from(board, cell, step))
    return rising_cells(board, places)


def sight(board, piece, cell):
    """Tell the rising tuple of the cells that the piece sees from the cell."""
    check_board_and_piece(board, piece)
    check_cell(board, cell)
    return view(board, piece, cell)


def seers(board, piece, cell):
    """Tell the rising tuple of the cells from which the piece sees the cell."""
    check_board_and_piece(board, piece)
    check_cell(board, cell)
    return view(board, contrary(piece), cell)


def place_of(board, cell):
    """Tell at which place, from 0 on, the cell stands among the board's cells."""
    row, column = cell
    return row * board[1] + column


def view_places(board, piece):
    """Tell for each cell, in their order, the places of the cells that the piece sees from there."""
    return [[place_of(board, other) for other in view(board, piece, cell)] for cell in cells_of(board)]


def view_bits(board, piece):
    """Tell for each cell the whole number in which just the bits at the places that it sees are 1."""
    return [sum([1 << place for place in places]) for places in view_places(board, piece)]
