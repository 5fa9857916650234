import copy
import unittest

from seeall.errors import NoPiece, NoText, SightError
from seeall.pieces import contrary, is_piece, is_two_way, named
from tests.plain import AROUND, CROOKED, EMPTY, ONE_WAY, SLANTING, STEPS, STRAIGHT
from tests.things import GREAT, refusal, told_things, wrong_things

NAMES = ("king", "queen", "rook", "bishop", "knight")

NO_STEPS = (
    (0, 0), (4, 0), (0, 4), (-4, 0), (0, -4), (4, 4), (-4, 3), (3, -4), (GREAT, 1), (1, -GREAT),
    (True, 1), (1, True), (False, 1), (1, False), (True, True), (False, False), (True, False),
    [1, 1], (1,), (1, 1, 1), (), ((1, 1),), (1, (1,)), ([1], 1), (1, [1]), (None, 1), (1, None), ("1", 1), (1, "1"),
    1, 0, None, True, "", "11", "1,1", {}, {1: 1}, [], [[1, 1]], 1.0, (1.0, 1), (1, 1.0), b"11",
)

NOT_RISING = (
    ((1, 1), (1, 1)), ((1, 1), (1, 0)), ((1, 0), (-1, 0)), ((1, 0), (2, 0), (2, 0)), ((1, 0), (3, 0), (2, 0)),
    ((2, 0), (1, 0), (3, 0)), ((0, 1), (0, 2), (0, 3), (0, -1)),
)

NO_TUPLES_OF_STEPS = (
    None, True, False, 0, 1, "", "runs", [], [(1, 1)], [[1, 1]], ([1, 1],), {}, {(1, 1): True}, (1, 1), (1,), ((),),
    (((1, 1),),), {(1, 1)}, frozenset(), b"", 1.5,
)


def spread_out(many):
    """Rising tuples of so many steps, from all along the steps."""
    return [tuple(STEPS[at:at + many]) for at in range(len(STEPS) - many + 1)] + [tuple(STEPS[::5][:many])]


def some_pieces():
    pieces = [EMPTY, ONE_WAY] + [named(name) for name in NAMES]
    for many in range(9):
        for steps in spread_out(many):
            pieces += [(steps, ()), ((), steps), (steps, steps), (steps, ((1, 1),))]
    return pieces


def both_places(steps):
    """Steps as leaps and as runs, beside none and beside one."""
    return [(steps, ()), ((), steps), (steps, ((1, 1),)), (((1, 1),), steps), (steps, steps)]


def with_a_wrong_step():
    things = []
    for step in NO_STEPS:
        for steps in ((step,), ((-3, -3), step), (step, (3, 3)), ((-3, -3), step, (3, 3))):
            things += both_places(steps)
    return things


def with_wrong_steps():
    """Too many steps, steps twice or out of order, and what is no tuple of steps at all."""
    things = []
    for many in (9, 10, 48):
        for steps in spread_out(many):
            things += both_places(steps)
    for steps in NOT_RISING + NO_TUPLES_OF_STEPS:
        things += both_places(steps)
    return things


def with_wrong_parts(leaps, runs):
    """A piece with lists for tuples, or with a part more or less."""
    return [
        [leaps, runs], (list(leaps), runs), (leaps, list(runs)), (list(leaps), list(runs)),
        ([list(step) for step in leaps], runs), (leaps, [list(step) for step in runs]),
        (leaps,), (leaps, runs, ()), (leaps, runs, runs), ((), leaps, runs), (leaps, runs, None),
        ((leaps, runs),), ((leaps, runs), ()), ((), (leaps, runs)), [(leaps, runs)], {leaps: runs}, {"leaps": leaps},
    ]


def no_pieces():
    things = wrong_things() + with_a_wrong_step() + with_wrong_steps()
    for leaps, runs in [named(name) for name in NAMES] + [EMPTY, ONE_WAY]:
        things += with_wrong_parts(leaps, runs)
    return things


class IsPieceTest(unittest.TestCase):
    def test_the_five_names(self):
        for name in NAMES:
            self.assertIs(is_piece(named(name)), True, name)

    def test_none_to_eight_steps_each(self):
        for piece in some_pieces():
            self.assertIs(is_piece(piece), True, piece)
        self.assertIs(is_piece(EMPTY), True)
        for leaps in range(9):
            for runs in range(9):
                self.assertIs(is_piece((tuple(STEPS[:leaps]), tuple(STEPS[-runs - 1:-1]))), True)

    def test_nine_steps(self):
        for steps in spread_out(9):
            for piece in both_places(steps):
                self.assertIs(is_piece(piece), False, piece)

    def test_each_number_of_a_step(self):
        for down in range(-6, 7):
            for right in range(-6, 7):
                right_one = (down, right) in STEPS
                self.assertIs(is_piece((((down, right),), ())), right_one, (down, right))
                self.assertIs(is_piece(((), ((down, right),))), right_one, (down, right))

    def test_any_two_steps_rise_or_are_refused(self):
        for ahead in STEPS:
            for behind in STEPS:
                self.assertIs(is_piece(((ahead, behind), ())), ahead < behind)
                self.assertIs(is_piece(((), (ahead, behind))), ahead < behind)

    def test_leaps_and_runs_may_share_steps(self):
        self.assertIs(is_piece((((1, 0),), ((1, 0),))), True)
        self.assertIs(is_piece((((1, 0),), ((-1, 0),))), True)

    def test_whatever_is_no_piece(self):
        for at, thing in enumerate(no_pieces()):
            self.assertIs(is_piece(thing), False, at)


class NamedTest(unittest.TestCase):
    def test_the_five_names(self):
        self.assertEqual(named("king"), (AROUND, ()))
        self.assertEqual(named("queen"), ((), AROUND))
        self.assertEqual(named("rook"), ((), STRAIGHT))
        self.assertEqual(named("bishop"), ((), SLANTING))
        self.assertEqual(named("knight"), (CROOKED, ()))
        self.assertEqual([len(steps) for steps in (AROUND, STRAIGHT, SLANTING, CROOKED)], [8, 4, 4, 8])

    def test_other_texts(self):
        texts = ["", " ", "pawn", "kingqueen", "king queen", "king,", "king\n", "\tking", "king" * 125, "~", "0"]
        for name in NAMES:
            texts += [name.upper(), name.title(), name.swapcase(), name + " ", " " + name, name + "s", name + name]
            texts += [name[1:], name[:-1], name[::-1], name[0], name + "\n", "\n" + name, " ".join(name)]
            texts += [name[:at] + name[at].upper() + name[at + 1:] for at in range(len(name))]
        for text in texts:
            self.assertIs(refusal(named, text), NoText, text)

    def test_what_is_no_text(self):
        things = [[name] for name in NAMES] + [(name,) for name in NAMES] + [{name: name} for name in NAMES]
        things += [list(name) for name in NAMES] + [tuple(name) for name in NAMES]
        things += [name.encode() for name in NAMES] + [named(name) for name in NAMES] + wrong_things()
        for at, thing in enumerate(things):
            self.assertIs(refusal(named, thing), NoText, at)

    def test_the_same_answer_again(self):
        for name in NAMES:
            before = named(name)
            refusal(named, name.upper())
            contrary(before)
            self.assertEqual(named(name), before)

    def test_refusal_is_a_sight_error(self):
        with self.assertRaises(SightError):
            named("pawn")
        with self.assertRaises(ValueError):
            named(None)


class ContraryTest(unittest.TestCase):
    def test_known_pieces(self):
        self.assertEqual(contrary(EMPTY), EMPTY)
        self.assertEqual(contrary((((1, 2),), ())), (((-1, -2),), ()))
        self.assertEqual(contrary(((), ((-3, 0),))), ((), ((3, 0),)))
        self.assertEqual(contrary(ONE_WAY), (((-2, 1), (0, -1), (3, -3)), ((-1, -2), (1, 0))))

    def test_leaps_stay_leaps_and_runs_stay_runs(self):
        for piece in some_pieces():
            told = contrary(piece)
            self.assertIs(is_piece(told), True, piece)
            for given, turned in zip(piece, told):
                self.assertEqual({(-down, -right) for down, right in given}, set(turned))
                self.assertEqual(len(given), len(turned))
            self.assertEqual(contrary(told), piece)

    def test_refuses_whatever_is_no_piece(self):
        for at, thing in enumerate(no_pieces()):
            self.assertIs(refusal(contrary, thing), NoPiece, at)


class IsTwoWayTest(unittest.TestCase):
    def test_the_five_names(self):
        for name in NAMES:
            self.assertIs(is_two_way(named(name)), True, name)

    def test_known_pieces(self):
        self.assertIs(is_two_way(EMPTY), True)
        self.assertIs(is_two_way((((-1, -2), (1, 2)), ())), True)
        self.assertIs(is_two_way((((-1, -2), (1, 2)), ((0, -3), (0, 3)))), True)
        self.assertIs(is_two_way((((-1, 2), (1, 2)), ())), False)
        self.assertIs(is_two_way((((1, 0),), ())), False)
        self.assertIs(is_two_way(((), ((1, 0),))), False)
        self.assertIs(is_two_way(ONE_WAY), False)

    def test_a_leap_is_no_contrary_of_a_run(self):
        self.assertIs(is_two_way((((1, 0),), ((-1, 0),))), False)
        self.assertIs(is_two_way((((-1, 0), (1, 0)), ((1, 0),))), False)
        self.assertIs(is_two_way((((1, 0),), ((-1, 0), (1, 0)))), False)

    def test_each_step_has_its_contrary(self):
        for piece in some_pieces():
            both = all((-down, -right) in steps for steps in piece for down, right in steps)
            self.assertIs(is_two_way(piece), both, piece)

    def test_refuses_whatever_is_no_piece(self):
        for at, thing in enumerate(no_pieces()):
            self.assertIs(refusal(is_two_way, thing), NoPiece, at)


class HandedInTest(unittest.TestCase):
    def test_nothing_handed_in_is_changed(self):
        things = told_things() + some_pieces() + [list(piece) for piece in some_pieces()]
        before = copy.deepcopy(things)
        for thing in things:
            is_piece(thing)
            for call in (named, contrary, is_two_way):
                refusal(call, thing)
        self.assertTrue(things == before)

    def test_refusals_are_sight_errors(self):
        for call in (contrary, is_two_way):
            with self.assertRaises(SightError):
                call(((),))
            with self.assertRaises(ValueError):
                call("king")


if __name__ == "__main__":
    unittest.main()
