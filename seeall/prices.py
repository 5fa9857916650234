"""Prices of cells, and how they bound from below how many cells see all [41]."""

from seeall.boards import many_cells
from seeall.errors import NoPrices
from seeall.shapes import is_whole
from seeall.sights import check_board_and_piece, view_places

DEAREST = 1000


def are_prices(board, thing):
    """Tell of anything whether it is prices: a tuple with a whole number from 0 to 1000 for each cell."""
    if not isinstance(thing, tuple) or len(thing) != many_cells(board):
        return False
    return all([is_whole(price, 0, DEAREST) for price in thing])


def check_prices(board, piece, prices):
    """Refuse with NoBoard, then with NoPiece, then with NoPrices."""
    check_board_and_piece(board, piece)
    if not are_prices(board, prices):
        raise NoPrices("prices are a tuple with a whole number from 0 to 1000 for each cell")


def highest_sum(sights, prices):
    """Tell the most that the prices at the places of one of the sights come to together."""
    return max([sum([prices[place] for place in places]) for places in sights])


def cap(board, piece, prices):
    """Tell the most that the prices of the cells come to together that are seen from one cell."""
    check_prices(board, piece, prices)
    return highest_sum(view_places(board, piece), prices)


def bound(board, piece, prices):
    """Tell the least whole number that, times the cap, is no less than what all prices come to."""
    highest = cap(board, piece, prices)
    # Each cell sees itself: the cap is 0 only where all prices are.
    if highest == 0:
        return 0
    return (sum(prices) + highest - 1) // highest
