"""Pieces, the named ones, and their contraries [11], [13]."""

from seeall.errors import NoPiece, NoText
from seeall.shapes import is_couple, is_rising, is_whole_couple

FARTHEST = 3
MOST_STEPS = 8

STRAIGHT = ((-1, 0), (0, -1), (0, 1), (1, 0))
SLANTING = ((-1, -1), (-1, 1), (1, -1), (1, 1))
AROUND = ((-1, -1), (-1, 0), (-1, 1), (0, -1), (0, 1), (1, -1), (1, 0), (1, 1))
CROOKED = ((-2, -1), (-2, 1), (-1, -2), (-1, 2), (1, -2), (1, 2), (2, -1), (2, 1))


def is_step(thing):
    """Tell of anything whether it is a step (down, right)."""
    return is_whole_couple(thing, -FARTHEST, FARTHEST) and thing != (0, 0)


def are_steps(thing):
    """Tell of anything whether it is a rising tuple of at most eight steps."""
    if not isinstance(thing, tuple) or len(thing) > MOST_STEPS:
        return False
    # Only steps are compared: other things may have no order among them.
    return all([is_step(step) for step in thing]) and is_rising(thing)


def is_piece(thing):
    """Tell of anything whether it is a piece (leaps, runs)."""
    return is_couple(thing) and are_steps(thing[0]) and are_steps(thing[1])


def check_piece(piece):
    """Refuse with NoPiece what is no piece."""
    if not is_piece(piece):
        raise NoPiece("a piece is a tuple of two rising tuples of at most eight steps each")


def named(name):
    """Tell the piece of that name."""
    pieces = {
        "king": (AROUND, ()),
        "queen": ((), AROUND),
        "rook": ((), STRAIGHT),
        "bishop": ((), SLANTING),
        "knight": (CROOKED, ()),
    }
    # A list or a dict cannot be looked up among the names.
    if not isinstance(name, str) or name not in pieces:
        raise NoText("a name is king, queen, rook, bishop or knight")
    return pieces[name]


def contrary_steps(steps):
    """Tell the contraries of the steps, rising."""
    return tuple(sorted([(-down, -right) for down, right in steps]))


def contrary(piece):
    """Tell the piece with the contraries of the leaps as leaps, and of the runs as runs."""
    check_piece(piece)
    leaps, runs = piece
    return (contrary_steps(leaps), contrary_steps(runs))


def is_two_way(piece):
    """Tell whether the piece is its own contrary."""
    return contrary(piece) == piece
