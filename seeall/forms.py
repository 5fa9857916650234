"""What own turns of a board and a piece lead to one another: the forms of lots [81]."""

from seeall.fewest import all_least
from seeall.lots import check_standing
from seeall.sights import check_board_and_piece
from seeall.turns import TURNS, turned_board, turned_lot, turned_piece


def own_turns(board, piece):
    """Tell the rising tuple of the turns by which the board and the piece are themselves."""
    check_board_and_piece(board, piece)
    return tuple([
        turn for turn in range(TURNS)
        if turned_board(board, turn) == board and turned_piece(piece, turn) == piece
    ])


def least_alike(board, turns, lot):
    """Tell the least lot to which one of the turns leads the lot."""
    return min([turned_lot(board, turn, lot) for turn in turns])


def form(board, piece, lot):
    """Tell the least lot alike with the lot."""
    check_standing(board, piece, lot)
    return least_alike(board, own_turns(board, piece), lot)


def least_lots_by_form(board, piece):
    """Tell, for each form of the lots of least cells that see all cells, how many of them have it."""
    turns = own_turns(board, piece)
    counts = {}
    for lot in all_least(board, piece):
        shape = least_alike(board, turns, lot)
        counts[shape] = counts.get(shape, 0) + 1
    return counts


def least_forms(board, piece):
    """Tell the rising list of the forms of all lots of least cells that see all cells."""
    return sorted(least_lots_by_form(board, piece))


def least_form_counts(board, piece):
    """Tell, in the order of these forms, how many lots of least cells have each."""
    counts = least_lots_by_form(board, piece)
    return [counts[shape] for shape in sorted(counts)]
