"""Papers that show to anyone that no lot of so few cells sees all [42].

Of the lot that is held two things matter here: which cells it leaves unseen, as the bits at their places, and
how many cells it has to spare, by which most is more than it has cells (below 0 where most is less).
"""

from seeall.boards import cells_of, is_cell
from seeall.fewest import least
from seeall.lots import check_standing
from seeall.pieces import contrary
from seeall.prices import are_prices, highest_sum
from seeall.shapes import check_whole
from seeall.sights import check_board_and_piece, place_of, view_bits, view_places

HIGHEST_MOST = 64

PARTS = {"full": 1, "prices": 2, "cases": 3}


class Field:
    """A board and a piece, with what is seen from where reckoned once."""

    def __init__(self, board, piece):
        self.board = board
        self.cells = cells_of(board)
        self.sights = view_places(board, piece)
        self.watchers = view_places(board, contrary(piece))
        self.views = view_bits(board, piece)

    def unseen_by(self, lot):
        """Tell the bits of the cells that the lot does not see."""
        unseen = (1 << len(self.cells)) - 1
        for cell in lot:
            unseen = self.left_unseen(unseen, place_of(self.board, cell))
        return unseen

    def left_unseen(self, unseen, place):
        """Tell which of the unseen cells stay so when a piece is put to the place."""
        return unseen & ~self.views[place]


def is_at(bits, place):
    """Tell whether the bit at the place is 1."""
    return (bits >> place) & 1 == 1


def form_of(thing):
    """Tell of anything the word of the form of paper that it may be one of, an empty text where of none."""
    if not isinstance(thing, tuple) or len(thing) == 0:
        return ""
    word = thing[0]
    if isinstance(word, str) and PARTS.get(word) == len(thing):
        return word
    return ""


def is_full(unseen, spare):
    """Tell whether what is held does not see all and no cell may be put to it, or whether it has too many already."""
    return spare < 0 or (spare == 0 and unseen != 0)


def are_too_high(field, prices, unseen, spare):
    """Tell of anything whether it is prices that so few cells as there are to spare can't come to."""
    if not are_prices(field.board, prices):
        return False
    if any([price != 0 and not is_at(unseen, place) for place, price in enumerate(prices)]):
        return False
    return spare < 0 or sum(prices) > highest_sum(field.sights, prices) * spare


def ends_here(field, thing, unseen, spare):
    """Tell of anything whether it is a paper of one of the forms that have no papers within them."""
    form = form_of(thing)
    if form == "full":
        return is_full(unseen, spare)
    return form == "prices" and are_too_high(field, thing[1], unseen, spare)


def has_cases(field, thing, unseen):
    """Tell of anything whether it has an unseen cell, and as many parts as there are cells from which that is seen."""
    if form_of(thing) != "cases" or not is_cell(field.board, thing[1]) or not isinstance(thing[2], tuple):
        return False
    place = place_of(field.board, thing[1])
    return is_at(unseen, place) and len(thing[2]) == len(field.watchers[place])


def is_paper(board, piece, held, most, thing):
    """Tell of anything whether it is a paper for the lot held and the number most."""
    check_standing(board, piece, held)
    check_whole(most, 0, HIGHEST_MOST)
    field = Field(board, piece)
    # What is handed in may be deeper than calls can go: what is still to be looked at waits in a list.
    waiting = [(thing, field.unseen_by(held), most - len(held))]
    while waiting:
        paper, unseen, spare = waiting.pop()
        if has_cases(field, paper, unseen):
            for watcher, part in zip(field.watchers[place_of(board, paper[1])], paper[2]):
                waiting.append((part, field.left_unseen(unseen, watcher), spare - 1))
        elif not ends_here(field, paper, unseen, spare):
            return False
    return True


def hardest_place(field, unseen):
    """Tell the place of an unseen cell that is seen from fewest cells, so that there are fewest cases."""
    places = [place for place in range(len(field.cells)) if is_at(unseen, place)]
    return min(places, key=lambda place: len(field.watchers[place]))


def written_paper(field, unseen, spare):
    """Tell a paper where no lot with so many cells to spare, of 0 or more, sees what is unseen."""
    if spare == 0:
        return ("full",)
    prices = tuple([1 if is_at(unseen, place) else 0 for place in range(len(field.cells))])
    if are_too_high(field, prices, unseen, spare):
        return ("prices", prices)
    place = hardest_place(field, unseen)
    papers = [written_paper(field, field.left_unseen(unseen, watcher), spare - 1) for watcher in field.watchers[place]]
    return ("cases", field.cells[place], tuple(papers))


def some_paper(board, piece, most):
    """Tell a paper for the lot () of a small board, None where so many cells do see all."""
    check_board_and_piece(board, piece)
    check_whole(most, 0, HIGHEST_MOST)
    # The least is told of small boards alone: others are refused here, behind all else.
    if least(board, piece) <= most:
        return None
    field = Field(board, piece)
    return written_paper(field, field.unseen_by(()), most)
