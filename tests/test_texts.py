import itertools
import re
import unittest

from seeall.errors import NoBoard, NoLot, NoPiece, NoText
from seeall.pieces import is_piece
from seeall.texts import lot_text, piece_text, read_lot, read_piece
from tests.plain import (
    EMPTY, KING, KNIGHT, PIECES, ROOK, STEPS, all_boards, plain_cells, plain_lots, some_lots, some_pieces,
)
from tests.things import NO_BOARDS, NO_LOTS, changed, misordered, no_lots, not_refused, refusal, wrong_things

SIGNS = [*"#./ ,-+0123489lreapsunX\n\t_|", "\u0663", "\uff03", "\u00b2", "\u2212", "\u00a0", "\r"]
KING_TEXT = "leaps -1,-1 -1,0 -1,1 0,-1 0,1 1,-1 1,0 1,1 runs"


def plain_lot_text(board, lot):
    return "/".join("".join("#" if (row, column) in lot else "." for column in range(board[1]))
                    for row in range(board[0]))


def is_lot_text(text):
    """Whether a lot is so written: from one to eight rows of the same length, from one to eight."""
    rows = text.split("/")
    return len(rows) <= 8 and len({len(row) for row in rows}) == 1 and all(re.fullmatch("[#.]{1,8}", row)
                                                                           for row in rows)


def is_piece_text(text):
    """Whether a piece is so written."""
    step = "(?: (?:-[123]|[0123]),(?:-[123]|[0123]))"
    found = re.fullmatch(f"leaps({step}{{0,8}}) runs({step}{{0,8}})", text)
    if found is None:
        return False
    for words in found.groups():
        steps = [tuple(int(number) for number in word.split(",")) for word in words.split()]
        if (0, 0) in steps or steps != sorted(set(steps)):
            return False
    return True


def edited(text):
    """The text with one sign more, fewer or otherwise, and with two signs swapped."""
    texts = []
    for at in range(len(text) + 1):
        texts += [text[:at] + sign + text[at:] for sign in SIGNS]
        if at < len(text):
            texts += [text[:at] + text[at + 1:], text[:at] + text[at:at + 2][::-1] + text[at + 2:]]
            texts += [text[:at] + sign + text[at + 1:] for sign in SIGNS]
    return texts


class LotTextTest(unittest.TestCase):
    def test_known_texts(self):
        self.assertEqual(lot_text((2, 3), ((0, 1),)), ".#./...")
        self.assertEqual(lot_text((1, 1), ()), ".")
        self.assertEqual(lot_text((1, 1), ((0, 0),)), "#")
        self.assertEqual(lot_text((3, 1), ((2, 0),)), "././#")
        self.assertEqual(lot_text((1, 3), ((0, 0), (0, 2))), "#.#")
        self.assertEqual(lot_text((8, 8), tuple(plain_cells((8, 8)))), "/".join(["########"] * 8))

    def test_one_by_one(self):
        for board in all_boards():
            for lot in some_lots(board, "text", 6):
                self.assertEqual(lot_text(board, lot), plain_lot_text(board, lot), (board, lot))

    def test_whatever_is_no_lot(self):
        for board in ((1, 1), (2, 3), (8, 8)):
            for at, thing in enumerate(no_lots(board)):
                self.assertIs(refusal(lot_text, board, thing), NoLot, (board, at))

    def test_the_order_of_refusals(self):
        places = [((2, 3), NoBoard, NO_BOARDS), (((0, 1), (1, 2)), NoLot, NO_LOTS)]
        self.assertEqual(misordered(lot_text, places), [])


class ReadLotTest(unittest.TestCase):
    def test_known_texts(self):
        self.assertEqual(read_lot(".#./..."), ((2, 3), ((0, 1),)))
        self.assertEqual(read_lot("."), ((1, 1), ()))
        self.assertEqual(read_lot("#"), ((1, 1), ((0, 0),)))
        self.assertEqual(read_lot("##/.#"), ((2, 2), ((0, 0), (0, 1), (1, 1))))
        self.assertEqual(read_lot("/".join(["........"] * 8)), ((8, 8), ()))

    def test_what_is_written_is_read(self):
        for board in all_boards():
            for lot in some_lots(board, "read", 6):
                told = read_lot(lot_text(board, lot))
                self.assertEqual(told, (board, lot))
                self.assertEqual([part.__class__ for part in told], [tuple, tuple])
        for board in ((1, 1), (2, 3), (3, 2)):
            for lot in plain_lots(board):
                self.assertEqual(read_lot(plain_lot_text(board, lot)), (board, lot))

    def test_texts_that_write_none(self):
        wrong = ["", "/", "./", "/.", ".//.", "./..", "../.", ".#./..", ".#./.../", " .", ". ", ".\n", "\n.", ".\n.",
                 "x",
                 "0", "# #", "#.#.#.#.#", ".........", "/".join(["."] * 9), "/".join(["........."] * 8),
                 "#/#/#/#/#/#/#/#/",
                 "...\\...", ".|.", "((1, 1), ())", "#\r", "./.\n", "\uff03", "\u2024", ".\u2028."]
        for text in wrong:
            self.assertIs(refusal(read_lot, text), NoText, repr(text))

    def test_all_short_texts(self):
        for many in range(6):
            for signs in itertools.product("#./ x\n", repeat=many):
                text = "".join(signs)
                self.check(text)

    def test_one_sign_more_fewer_or_otherwise(self):
        for text in (".#./...", "#", "..", "./#", "#/./#/./#/./#/.", "########", "/".join(["#.#.#.#."] * 8)):
            for other in edited(text):
                self.check(other)

    def check(self, text):
        if is_lot_text(text):
            self.assertEqual(plain_lot_text(*read_lot(text)), text)
        else:
            self.assertIs(refusal(read_lot, text), NoText, repr(text))

    def test_whatever_is_no_text(self):
        for at, thing in enumerate(wrong_things()):
            self.assertIs(refusal(read_lot, thing), NoText, at)
        for thing in (["."], ("#",), {".": "."}, b"#", ((1, 1), ()), 1, None, True):
            self.assertIs(refusal(read_lot, thing), NoText, thing)


class PieceTextTest(unittest.TestCase):
    def test_known_texts(self):
        self.assertEqual(piece_text((((-1, 2), (1, 0)), ())), "leaps -1,2 1,0 runs")
        self.assertEqual(piece_text(EMPTY), "leaps runs")
        self.assertEqual(piece_text(KING), KING_TEXT)
        self.assertEqual(piece_text(ROOK), "leaps runs -1,0 0,-1 0,1 1,0")
        self.assertEqual(piece_text((((-3, -3),), ((3, 0), (3, 3)))), "leaps -3,-3 runs 3,0 3,3")

    def test_one_by_one(self):
        for piece in PIECES + tuple(some_pieces("text", 200)):
            words = [[",".join(str(number) for number in step) for step in steps] for steps in piece]
            self.assertEqual(piece_text(piece), " ".join(["leaps", *words[0], "runs", *words[1]]))

    def test_whatever_is_no_piece(self):
        nine = tuple(STEPS[:9])
        for at, thing in enumerate(wrong_things() + [(nine, ()), ((), nine), (((1, 0), (0, 1)), ()), (((0, 0),), ())]):
            self.assertIs(refusal(piece_text, thing), NoPiece, at)


class ReadPieceTest(unittest.TestCase):
    def test_known_texts(self):
        self.assertEqual(read_piece("leaps -1,2 1,0 runs"), (((-1, 2), (1, 0)), ()))
        self.assertEqual(read_piece("leaps runs"), EMPTY)
        self.assertEqual(read_piece(KING_TEXT), KING)
        self.assertEqual(read_piece("leaps runs -3,3"), ((), ((-3, 3),)))
        self.assertEqual(read_piece("leaps -3,-3 runs 3,0 3,3"), (((-3, -3),), ((3, 0), (3, 3))))

    def test_what_is_written_is_read(self):
        for piece in PIECES + tuple(some_pieces("read", 300)):
            told = read_piece(piece_text(piece))
            self.assertEqual(told, piece)
            self.assertIs(is_piece(told), True)
        for step in STEPS:
            self.assertEqual(read_piece(piece_text(((step,), (step,)))), ((step,), (step,)))

    def test_texts_that_write_none(self):
        wrong = [
            "", " ", "leaps", "runs", "leaps ", " leaps runs", "leaps runs ", "leaps  runs", "leaps runs\n",
            "\nleaps runs",
            "leapsruns", "leaps\truns", "runs leaps", "leaps runs runs", "leaps leaps runs", "leaps runs leaps",
            "Leaps runs", "leaps Runs", "leaps,runs", "leaps 1,0", "runs 1,0", "1,0", "leaps 1,0 runs 0,1 runs",
            "leaps 0,0 runs", "leaps runs 0,0", "leaps -0,1 runs", "leaps 1,-0 runs", "leaps +1,0 runs",
            "leaps 1,+0 runs",
            "leaps 01,0 runs", "leaps 1,00 runs", "leaps 4,0 runs", "leaps 0,-4 runs", "leaps 10,0 runs",
            "leaps 1 runs",
            "leaps 1,0,1 runs", "leaps 1, 0 runs", "leaps 1 ,0 runs", "leaps (1,0) runs", "leaps 1.0 runs",
            "leaps 1,0; runs",
            "leaps 1,0  2,0 runs", "leaps 1,0 runs  2,0", "leaps 1,0 runs 2,0 ", "leaps 1,0 runs 2,0\n",
            "leaps 1,0 0,1 runs", "leaps 1,0 1,0 runs", "leaps runs 1,0 0,1", "leaps runs 1,0 1,0", "leaps --1,0 runs",
            "leaps \u0661,0 runs", "leaps 1,\u00b2 runs", "leaps \u22121,0 runs", "leaps\u00a0runs", "leaps 1_0,0 runs",
            "king", "leaps -1,2 1,0 runs leaps", "leaps , runs", "leaps 1, runs", "leaps ,1 runs", "leaps - runs",
        ]
        for text in wrong:
            self.assertIs(refusal(read_piece, text), NoText, repr(text))

    def test_eight_steps_and_nine(self):
        def written(leaps, runs):
            return " ".join(["leaps", *(f"{a},{b}" for a, b in leaps), "runs", *(f"{a},{b}" for a, b in runs)])
        self.assertEqual(read_piece(written(STEPS[:8], STEPS[-8:])), (tuple(STEPS[:8]), tuple(STEPS[-8:])))
        self.assertIs(refusal(read_piece, written(STEPS[:9], [])), NoText)
        self.assertIs(refusal(read_piece, written([], STEPS[:9])), NoText)
        self.assertIs(refusal(read_piece, written(STEPS, STEPS)), NoText)
        self.assertIs(refusal(read_piece, written(STEPS[:8][::-1], [])), NoText)

    def test_one_sign_more_fewer_or_otherwise(self):
        texts = ["leaps runs", "leaps -1,2 1,0 runs", KING_TEXT, piece_text(KNIGHT), piece_text(ROOK),
                 "leaps 2,0 runs -3,3 1,1"]
        for text in texts:
            for other in edited(text):
                if is_piece_text(other):
                    self.assertEqual(piece_text(read_piece(other)), other)
                else:
                    self.assertIs(refusal(read_piece, other), NoText, repr(other))

    def test_all_orders_of_words(self):
        for many in range(5):
            for words in itertools.product(["leaps", "runs", "1,0", "-1,2", ""], repeat=many):
                text = " ".join(words)
                due = None if is_piece_text(text) else NoText
                self.assertIs(refusal(read_piece, text), due, repr(text))

    def test_whatever_is_no_text(self):
        for at, thing in enumerate(wrong_things()):
            self.assertIs(refusal(read_piece, thing), NoText, at)
        for thing in (["leaps runs"], ("leaps", "runs"), {"leaps runs": 1}, b"leaps runs", EMPTY, KING):
            self.assertIs(refusal(read_piece, thing), NoText, thing)


class HandedInTest(unittest.TestCase):
    def test_nothing_handed_in_is_changed(self):
        self.assertIs(changed(lot_text, (2, 3), ()), False)
        for call, right in ((piece_text, KING), (read_lot, "."), (read_piece, "leaps runs")):
            self.assertIs(changed(call, right), False)

    def test_refusals_are_sight_errors(self):
        self.assertEqual(not_refused(lot_text, [(None, ()), ((1, 1), None)]), [])
        self.assertEqual(not_refused(piece_text, [(None,), ((),)]), [])
        self.assertEqual(not_refused(read_lot, [(None,), ("",)]), [])
        self.assertEqual(not_refused(read_piece, [(None,), ("",)]), [])

    def test_the_same_answer_again(self):
        texts = [KING_TEXT, "leaps runs", "leaps runs 1,0"]
        self.assertEqual([read_piece(text) for text in texts * 2], [read_piece(text) for text in texts] * 2)
        self.assertEqual([read_lot(text) for text in ["#.", "./#"] * 2], [((1, 2), ((0, 0),)), ((2, 1), ((1, 0),))] * 2)


if __name__ == "__main__":
    unittest.main()
