import itertools
import random
import unittest

from seeall.apart import is_apart
from seeall.desk import Desk
from seeall.errors import NoBoard, NoCell, NoDeed, NoLine, NoLot, NoSight, TooGreat
from seeall.fewest import least
from seeall.lean import is_lean
from tests.plain import (
    BISHOP, KING, KNIGHT, QUEEN, ROOK, all_boards, great_boards, plain_cells, plain_is_watched, plain_seers, plain_seen,
    plain_sees_all, plain_without,
)
from tests.things import changed, refusal, wrong_things

NAMES = {"king": KING, "queen": QUEEN, "rook": ROOK, "bishop": BISHOP, "knight": KNIGHT}
BARE_QUESTIONS = ["lot", "unseen", "count", "lean", "apart", "watched", "least"]
BARE_DEEDS = ["thin", "fill", "back"]
WITH_FIGURES = ["board", "put", "take", "seers"]
FIGURES = "0123456789"


class PlainDesk:
    """A desk that keeps the deeds that stand and reckons all from them anew, by tests.plain."""

    def __init__(self):
        self.deeds = []

    def state(self):
        board, piece, lot = (1, 1), KING, ()
        for word, *told in self.deeds:
            if word == "board":
                board, lot = (int(told[0]), int(told[1])), ()
            elif word == "piece":
                piece = NAMES[told[0]]
            elif word in ("put", "take"):
                cell = (int(told[0]), int(told[1]))
                lot = plain_without(lot, cell) if word == "take" else tuple(sorted([*lot, cell]))
            elif word == "thin":
                for cell in lot[::-1]:
                    if plain_sees_all(board, piece, plain_without(lot, cell)):
                        lot = plain_without(lot, cell)
            else:
                for cell in plain_cells(board):
                    if cell not in plain_seen(board, piece, lot):
                        lot = tuple(sorted([*lot, cell]))
        return board, piece, lot

    def due(self, line):
        """What the line is answered with, or the class that it is refused with."""
        board, piece, lot = self.state()
        word, *told = line.split(" ")
        cell = (int(told[0]), int(told[1])) if word in WITH_FIGURES else None
        if word == "back":
            return self.deeds.pop() and "ok" if self.deeds else NoDeed
        if word == "board" and not (1 <= cell[0] <= 8 and 1 <= cell[1] <= 8):
            return NoBoard
        if word in ("put", "take", "seers") and cell not in plain_cells(board):
            return NoCell
        if word in ("put", "take") and (cell in lot) == (word == "put"):
            return NoLot
        if word == "thin" and not plain_sees_all(board, piece, lot):
            return NoSight
        if word in ("board", "piece", "put", "take", "thin", "fill"):
            self.deeds.append((word, *told))
            return "ok"
        return self.answer(word, cell, board, piece, lot)

    def answer(self, word, cell, board, piece, lot):
        rows = ["".join("#" if (row, column) in lot else "." for column in range(board[1])) for row in range(board[0])]
        unseen = [place for place in plain_cells(board) if place not in plain_seen(board, piece, lot)]
        if word == "least":
            return TooGreat if board[0] * board[1] > 12 else str(least(board, piece))
        return {
            "lot": "/".join(rows),
            "unseen": " ".join(f"{row},{column}" for row, column in unseen) or "none",
            "count": f"{len(lot)}",
            "lean": "yes" if is_lean(board, piece, lot) else "no",
            "apart": "yes" if is_apart(board, piece, lot) else "no",
            "watched": "yes" if plain_is_watched(board, piece, lot) else "no",
            "seers": " ".join(f"{row},{column}" for row, column in plain_seers(board, piece, cell)) if cell else "",
        }[word]


def said(desk, line):
    """What the desk answers, or the very class that it refuses with."""
    try:
        return desk.say(line)
    except Exception as why:
        return why.__class__


def desk_told(*lines):
    desk = Desk()
    for line in lines:
        desk.say(line)
    return desk


def all_answers(desk):
    return [said(desk, line) for line in BARE_QUESTIONS + ["seers 0 0", "seers 2 3", "seers 9 9"]]


def some_line(chance):
    figures = [str(chance.choice((0, 0, 1, 1, 2, 2, 3, 4, 7, 8, 9))) for k in range(2)]
    word = chance.choice(["board", "piece", "fill", "thin", "back", "back"] + ["put"] * 5 + ["take"] * 2 + ["seers"]
                         + BARE_QUESTIONS)
    if word in WITH_FIGURES:
        return " ".join([word, *figures])
    return f"piece {chance.choice(list(NAMES))}" if word == "piece" else word


class DeedsTest(unittest.TestCase):
    def test_a_desk_at_first(self):
        desk = Desk()
        self.assertEqual([desk.say(line) for line in BARE_QUESTIONS], [".", "0,0", "0", "no", "yes", "no", "1"])
        self.assertEqual(desk.say("seers 0 0"), "0,0")
        self.assertIs(said(desk, "back"), NoDeed)

    def test_the_piece_at_first_is_king(self):
        self.assertEqual(desk_told("board 3 3", "put 1 1").say("unseen"), "none")
        self.assertEqual(desk_told("board 3 3", "put 0 0").say("unseen"), "0,2 1,2 2,0 2,1 2,2")

    def test_board(self):
        for high, wide in all_boards():
            desk = desk_told("board 1 1", "put 0 0")
            self.assertEqual(desk.say(f"board {high} {wide}"), "ok")
            self.assertEqual(desk.say("lot"), "/".join(["." * wide] * high))
        for line in ("board 0 1", "board 1 0", "board 9 1", "board 1 9", "board 0 0", "board 9 9"):
            desk = desk_told("board 2 2", "put 0 0")
            self.assertIs(said(desk, line), NoBoard)
            self.assertEqual(desk.say("lot"), "#./..")

    def test_board_keeps_the_piece(self):
        desk = desk_told("board 3 3", "piece rook", "put 0 0", "board 2 4", "put 1 1")
        self.assertEqual(desk.say("unseen"), "0,0 0,2 0,3")

    def test_the_same_board_again_has_no_pieces(self):
        desk = desk_told("board 2 2", "put 0 0", "board 2 2")
        self.assertEqual(desk.say("lot"), "../..")
        self.assertEqual(desk.say("back"), "ok")
        self.assertEqual(desk.say("lot"), "#./..")

    def test_piece(self):
        due = {"king": "0,2 1,2 2,0 2,1 2,2", "queen": "1,2 2,1", "rook": "1,1 1,2 2,1 2,2",
               "bishop": "0,1 0,2 1,0 1,2 2,0 2,1", "knight": "0,1 0,2 1,0 1,1 2,0 2,2"}
        desk = desk_told("board 3 3", "put 0 0")
        for name in NAMES:
            self.assertEqual(desk.say(f"piece {name}"), "ok")
            self.assertEqual(desk.say("unseen"), due[name], name)
            self.assertEqual(desk.say("lot"), "#../.../...")

    def test_put_and_take(self):
        desk = desk_told("board 2 3", "put 1 2", "put 0 1", "put 1 0")
        self.assertEqual(desk.say("lot"), ".#./#.#")
        self.assertEqual(desk.say("count"), "3")
        self.assertIs(said(desk, "put 0 1"), NoLot)
        self.assertIs(said(desk, "take 0 0"), NoLot)
        for line in ("put 2 0", "put 0 3", "put 9 9", "take 2 0", "take 0 3", "take 8 8", "seers 2 0", "seers 0 3"):
            self.assertIs(said(desk, line), NoCell, line)
        self.assertEqual(desk.say("take 0 1"), "ok")
        self.assertEqual(desk.say("lot"), ".../#.#")
        self.assertIs(said(desk, "take 0 1"), NoLot)
        self.assertEqual(desk.say("put 0 1"), "ok")
        self.assertEqual(desk.say("lot"), ".#./#.#")

    def test_thin_and_fill(self):
        desk = desk_told("board 1 5")
        self.assertIs(said(desk, "thin"), NoSight)
        self.assertEqual(desk.say("fill"), "ok")
        self.assertEqual(desk.say("lot"), "#.#.#")
        self.assertEqual(desk.say("put 0 1"), "ok")
        self.assertEqual(desk.say("thin"), "ok")
        self.assertEqual(desk.say("lot"), ".#..#")
        self.assertEqual(desk.say("lean"), "yes")
        self.assertEqual(desk.say("unseen"), "none")

    def test_thinned_as_the_point_tells(self):
        desk = desk_told("board 1 4", "put 0 0", "put 0 1", "put 0 2", "put 0 3", "thin")
        self.assertEqual(desk.say("lot"), "#.#.")

    def test_back(self):
        desk = desk_told("board 1 3", "put 0 0", "piece rook", "thin", "take 0 0", "fill")
        lots = ["#..", "...", "#..", "#..", "#..", "...", "."]
        for at, lot in enumerate(lots):
            self.assertEqual(desk.say("lot"), lot, at)
            self.assertEqual(said(desk, "back"), "ok" if at < len(lots) - 1 else NoDeed)
        self.assertIs(said(desk, "back"), NoDeed)

    def test_back_itself_is_no_deed(self):
        desk = desk_told("board 1 3", "put 0 0", "put 0 1", "back", "back")
        self.assertEqual(desk.say("lot"), "...")
        self.assertEqual(desk.say("put 0 2"), "ok")
        self.assertEqual(desk.say("back"), "ok")
        self.assertEqual(desk.say("lot"), "...")
        self.assertEqual(desk.say("back"), "ok")
        self.assertEqual(desk.say("lot"), ".")
        self.assertIs(said(desk, "back"), NoDeed)

    def test_deeds_that_change_nothing_stand_too(self):
        desk = desk_told("piece king", "board 1 1", "fill", "fill", "thin")
        for left in range(5):
            self.assertEqual(desk.say("back"), "ok")
        self.assertIs(said(desk, "back"), NoDeed)

    def test_questions_and_refusals_are_no_deeds(self):
        desk = desk_told("board 2 2", "put 0 0")
        for line in BARE_QUESTIONS + ["seers 0 0", "seers 3 3", "put 0 0", "put 5 5", "board 0 0", "nothing",
                                      "piece pawn"]:
            said(desk, line)
        self.assertEqual(desk.say("back"), "ok")
        self.assertEqual(desk.say("lot"), "../..")
        self.assertEqual(desk.say("back"), "ok")
        self.assertIs(said(desk, "back"), NoDeed)

    def test_hundreds_of_deeds_are_undone_one_by_one(self):
        chance = random.Random("many deeds")
        desk = Desk()
        kept = [all_answers(desk)]
        while len(kept) < 400:
            line = some_line(chance)
            if line.split(" ")[0] not in BARE_QUESTIONS + ["seers", "back"] and said(desk, line) == "ok":
                kept.append(all_answers(desk))
        for answers in kept[::-1]:
            self.assertEqual(all_answers(desk), answers)
            last = said(desk, "back")
        self.assertIs(last, NoDeed)


class QuestionsTest(unittest.TestCase):
    def test_known_answers(self):
        desk = desk_told("board 2 3", "put 0 0", "put 0 1")
        self.assertEqual([desk.say(line) for line in BARE_QUESTIONS], ["##./...", "none", "2", "no", "no", "yes", "1"])
        desk = desk_told("board 1 3", "put 0 0", "put 0 2")
        self.assertEqual([desk.say(line) for line in BARE_QUESTIONS], ["#.#", "none", "2", "yes", "yes", "no", "1"])

    def test_seers(self):
        desk = desk_told("board 2 3")
        self.assertEqual(desk.say("seers 0 0"), "0,0 0,1 1,0 1,1")
        desk.say("piece knight")
        self.assertEqual(desk.say("seers 0 0"), "0,0 1,2")
        desk.say("piece rook")
        self.assertEqual(desk.say("seers 1 2"), "0,2 1,0 1,1 1,2")

    def test_least(self):
        self.assertEqual(desk_told("board 3 4").say("least"), "2")
        self.assertEqual(desk_told("board 3 4", "piece rook").say("least"), "3")
        self.assertEqual(desk_told("board 3 4", "piece knight", "put 0 0").say("least"), "4")
        for high, wide in great_boards():
            desk = desk_told(f"board {high} {wide}")
            with self.assertRaises(TooGreat) as caught:
                desk.say("least")
            self.assertEqual((caught.exception.many, caught.exception.most), (high * wide, 12))

    def test_questions_on_great_boards(self):
        desk = desk_told("board 8 8", "piece queen", "fill")
        self.assertEqual(desk.say("unseen"), "none")
        self.assertEqual(desk.say("apart"), "yes")
        self.assertEqual(desk.say("count"), str(desk.say("lot").count("#")))
        full = desk_told("board 8 8", *(f"put {row} {column}" for row, column in plain_cells((8, 8))))
        self.assertEqual([full.say(line) for line in BARE_QUESTIONS[1:6]], ["none", "64", "no", "no", "yes"])

    def test_questions_change_nothing(self):
        desk = desk_told("board 3 4", "piece knight", "put 1 1", "put 2 3")
        first = all_answers(desk)
        self.assertEqual(all_answers(desk), first)
        self.assertEqual(all_answers(desk), first)


class NoLineTest(unittest.TestCase):
    def refused(self, lines):
        """The lines that are answered, or refused otherwise, or that change something."""
        desk = desk_told("board 3 4", "put 1 1")
        first = all_answers(desk)
        wrong = [line for line in lines if said(desk, line) is not NoLine]
        return wrong + ([] if all_answers(desk) == first else ["changed"])

    def test_whatever_is_no_text(self):
        wrong = wrong_things() + [["lot"], ("lot",), b"lot", {"lot": 1}, ["put", "0", "0"], ("board", 1, 1), 0, None,
                                  True]
        self.assertEqual(self.refused(wrong), [])

    def test_words(self):
        lines = ["", " ", "  ", "king", "Lot", "LOT", "lots", "lo", "boards 1 1", "Board 1 1", "undo", "quit", "help",
                 "ok",
                 "none", "yes", "see", "seer 0 0", "sight 0 0", "thinned", "filled", "taken", "0", "0 0", "put,0,0",
                 "put00",
                 "b\u043eard 1 1", "\uff4cot"]
        self.assertEqual(self.refused(lines), [])

    def test_how_many_words(self):
        for word in BARE_QUESTIONS + BARE_DEEDS:
            lines = [f"{word} {more}" for more in ("0", "0 0", "king", "", word, " ")]
            self.assertEqual(self.refused(lines), [], word)
        for word in WITH_FIGURES:
            lines = [f"{word}{more}" for more in ("", " ", " 1", " 1 1 1", " 1 1 king", " 1 ", " 1 1 ", "  1 1",
                                                  " 1  1", " ,")]
            self.assertEqual(self.refused(lines), [], word)
        lines = [f"piece{more}" for more in ("", " ", " king rook", " king king", " king ", "  king", " 1 1",
                                             " king 1")]
        self.assertEqual(self.refused(lines), [])

    def test_names(self):
        names = ["pawn", "King", "KING", "kin", "kings", "queen\n", "king,", "0", "leaps", "lot", "k", "\u212aing"]
        self.assertEqual(self.refused([f"piece {name}" for name in names]), [])

    def test_figures(self):
        figures = ["10", "00", "01", "-1", "+1", "-0", "1.", "1,0", "a", "x", "0x1", "1\n", "\n1", "1\t", "", "king",
                   "#", "one",
                   "\u0661", "\u00b2", "\u2460", "\uff11", "\u0967", "\u00bd", "1_0", "123456789", "0123456789", "12",
                   "98"]
        for word in WITH_FIGURES:
            for wrong in figures:
                self.assertEqual(self.refused([f"{word} {wrong} 1", f"{word} 1 {wrong}", f"{word} {wrong} {wrong}"]),
                                 [], wrong)

    def test_blanks_and_line_ends(self):
        for line in BARE_QUESTIONS + BARE_DEEDS + ["board 1 1", "piece rook", "put 0 0", "take 1 1", "seers 0 0"]:
            lines = [f" {line}", f"{line} ", f"{line}\n", f"\n{line}", f"{line}\r", f"\t{line}", f"{line}\t",
                     f"{line}\n{line}",
                     f"{line};", f"{line}\u00a0", line.upper(), line.title()]
            lines += [line.replace(" ", other) for other in ("  ", "\t", "\n", ",", "", "\u00a0", "\u3000")
                      if " " in line]
            self.assertEqual(self.refused(lines), [], line)

    def test_ahead_of_all_else(self):
        desk = Desk()
        self.assertIs(said(desk, "board 0 10"), NoLine)
        self.assertIs(said(desk, "put 9 x"), NoLine)
        self.assertIs(said(desk, "take 9 9 9"), NoLine)
        self.assertIs(said(desk, "seers 10 0"), NoLine)
        self.assertIs(said(desk, "back 1"), NoLine)
        self.assertIs(said(desk, "thin 1"), NoLine)
        desk.say("board 8 8")
        self.assertIs(said(desk, "least 1"), NoLine)

    def test_all_single_figures_are_lines(self):
        for word in WITH_FIGURES:
            for first, second in itertools.product(FIGURES, FIGURES):
                self.assertIsNot(said(desk_told("board 3 4"), f"{word} {first} {second}"), NoLine)

    def test_cell_ahead_of_lot(self):
        for line in ("put 1 0", "take 1 0", "put 0 1", "take 0 1"):
            self.assertIs(said(desk_told("put 0 0"), line), NoCell)
            self.assertIs(said(desk_told("put 0 0", "take 0 0"), line), NoCell)


class StandingDeedsTest(unittest.TestCase):
    def test_held_against_a_plain_desk(self):
        for seed in range(60):
            chance = random.Random(f"desk {seed}")
            desk, other = Desk(), PlainDesk()
            for k in range(60):
                line = some_line(chance)
                self.assertEqual(said(desk, line), other.due(line), (seed, k, line, other.deeds))

    def test_answers_hang_on_the_deeds_that_stand(self):
        for seed in range(20):
            chance = random.Random(f"stand {seed}")
            desk, other = Desk(), PlainDesk()
            for k in range(80):
                line = some_line(chance)
                said(desk, line)
                other.due(line)
            fresh = desk_told(*(" ".join(deed) for deed in other.deeds))
            self.assertEqual(all_answers(desk), all_answers(fresh))
            while other.deeds:
                self.assertEqual((desk.say("back"), fresh.say("back"), other.deeds.pop() and "ok"), ("ok", "ok", "ok"))
                self.assertEqual(all_answers(desk), all_answers(fresh))
            self.assertIs(said(desk, "back"), NoDeed)

    def test_two_desks_have_nothing_in_common(self):
        chance = random.Random("two")
        desks, others = [Desk() for k in range(3)], [PlainDesk() for k in range(3)]
        for k in range(400):
            at = chance.randrange(3)
            line = some_line(chance)
            self.assertEqual(said(desks[at], line), others[at].due(line), (k, at, line))
        self.assertEqual(all_answers(Desk()), all_answers(Desk()))
        self.assertEqual(Desk().say("lot"), ".")

    def test_what_is_refused_changes_nothing(self):
        refused = ["board 0 1", "board 9 9", "put 1 1", "put 9 9", "take 0 0", "take 9 9", "seers 9 9", "piece pawn",
                   "x", "thin"]
        desk = desk_told("board 3 4", "put 1 1")
        first = all_answers(desk)
        for line in refused + [None, 7, ["lot"]]:
            self.assertIsInstance(said(desk, line), ValueError.__class__, line)
            self.assertEqual(all_answers(desk), first, line)
        self.assertEqual([said(desk, "back") for k in range(3)], ["ok", "ok", NoDeed])

    def test_kinds_of_answers(self):
        desk = desk_told("board 2 2")
        for line in BARE_QUESTIONS + ["seers 0 0", "fill", "thin", "board 1 1", "piece rook", "put 0 0", "take 0 0",
                                      "back"]:
            self.assertIs(desk.say(line).__class__, str, line)

    def test_the_interface(self):
        self.assertIn("say", Desk.__dict__)
        self.assertIs(refusal(Desk), None)
        self.assertIs(refusal(Desk, 1), TypeError)

    def test_nothing_handed_in_is_changed(self):
        self.assertIs(changed(Desk().say, "lot"), False)


if __name__ == "__main__":
    unittest.main()
