"""A desk with a board, a piece and a lot, which is told lines [101], [102], [103]."""

from seeall.apart import is_apart
from seeall.boards import check_board, check_cell
from seeall.errors import NoDeed, NoLine, NoLot, NoText
from seeall.fewest import least
from seeall.lean import is_lean, thinned
from seeall.lots import filled, unseen
from seeall.pieces import named
from seeall.sights import seers
from seeall.texts import lot_text
from seeall.watched import is_watched

FIGURES = "0123456789"


def figure(word):
    """Tell the number of a word that is a single figure."""
    if len(word) != 1 or word not in FIGURES:
        raise NoLine("a single figure is due")
    return int(word)


def two_figures(words):
    """Tell the numbers of two words that are single figures."""
    if len(words) != 2:
        raise NoLine("two figures are due")
    return (figure(words[0]), figure(words[1]))


def piece_named(words):
    """Tell the piece of the one word that is its name."""
    if len(words) != 1:
        raise NoLine("one name is due")
    try:
        return named(words[0])
    except NoText:
        raise NoLine("the name of a piece is due") from None


def nothing_more(words):
    """Tell None, where there are no words."""
    if len(words) != 0:
        raise NoLine("no more words are due")
    return None


def with_board(board, piece, lot, told):
    """Tell the state with that board, without pieces."""
    check_board(told)
    return (told, piece, ())


def with_piece(board, piece, lot, told):
    """Tell the state with that piece."""
    return (board, told, lot)


def with_put(board, piece, lot, told):
    """Tell the state with a piece put on the cell."""
    check_cell(board, told)
    if told in lot:
        raise NoLot("a piece stands on the cell")
    return (board, piece, tuple(sorted([*lot, told])))


def with_taken_away(board, piece, lot, told):
    """Tell the state with the piece on the cell taken away."""
    check_cell(board, told)
    if told not in lot:
        raise NoLot("no piece stands on the cell")
    return (board, piece, tuple([cell for cell in lot if cell != told]))


def with_thinned(board, piece, lot, told):
    """Tell the state with the lot thinned."""
    return (board, piece, thinned(board, piece, lot))


def with_filled(board, piece, lot, told):
    """Tell the state with the lot filled."""
    return (board, piece, filled(board, piece, lot))


def cells_text(cells):
    """Tell the cells as they are written, none where there are none."""
    return " ".join([f"{row},{column}" for row, column in cells]) if cells else "none"


def yes_or_no(truth):
    """Tell the word for the truth."""
    return "yes" if truth else "no"


def answer_lot(board, piece, lot, told):
    """Tell the lot as it is written."""
    return lot_text(board, lot)


def answer_unseen(board, piece, lot, told):
    """Tell the cells that are not seen."""
    return cells_text(unseen(board, piece, lot))


def answer_count(board, piece, lot, told):
    """Tell how many pieces stand."""
    return str(len(lot))


def answer_lean(board, piece, lot, told):
    """Tell whether the lot is lean."""
    return yes_or_no(is_lean(board, piece, lot))


def answer_apart(board, piece, lot, told):
    """Tell whether the lot is apart."""
    return yes_or_no(is_apart(board, piece, lot))


def answer_watched(board, piece, lot, told):
    """Tell whether the lot is watched."""
    return yes_or_no(is_watched(board, piece, lot))


def answer_least(board, piece, lot, told):
    """Tell the least of the board and the piece."""
    return str(least(board, piece))


def answer_seers(board, piece, lot, told):
    """Tell the cells from which the cell is seen."""
    return cells_text(seers(board, piece, told))


# The words behind the first one, where any are due.
READERS = {
    "board": two_figures,
    "piece": piece_named,
    "put": two_figures,
    "take": two_figures,
    "seers": two_figures,
}

DEEDS = {
    "board": with_board,
    "piece": with_piece,
    "put": with_put,
    "take": with_taken_away,
    "thin": with_thinned,
    "fill": with_filled,
}

QUESTIONS = {
    "lot": answer_lot,
    "unseen": answer_unseen,
    "count": answer_count,
    "lean": answer_lean,
    "apart": answer_apart,
    "watched": answer_watched,
    "least": answer_least,
    "seers": answer_seers,
}

UNDOING = "back"


def read_line(line):
    """Tell the first word of a line and what the others tell; refuse with NoLine what is no line."""
    if not isinstance(line, str):
        raise NoLine("a line is a text")
    words = line.split(" ")
    first = words[0]
    if first not in DEEDS and first not in QUESTIONS and first != UNDOING:
        raise NoLine("no line begins so")
    reader = READERS.get(first, nothing_more)
    return (first, reader(words[1:]))


class Desk:
    """A board, a piece and a lot: the states that the deeds that stand have led to, the last one behind."""

    def __init__(self):
        self.states = [((1, 1), named("king"), ())]

    def say(self, line):
        """Do the deed, or answer the question, that the line tells."""
        word, told = read_line(line)
        board, piece, lot = self.states[-1]
        if word in QUESTIONS:
            question = QUESTIONS[word]
            return question(board, piece, lot, told)
        if word == UNDOING:
            self.take_back()
        else:
            deed = DEEDS[word]
            self.states.append(deed(board, piece, lot, told))
        return "ok"

    def take_back(self):
        """Undo the last deed that stands."""
        if len(self.states) == 1:
            raise NoDeed("no deed stands")
        self.states.pop()
