import copy
import unittest

from seeall.boards import cells_of, is_board
from seeall.errors import NoBoard, SightError
from tests.plain import SIZES, all_boards
from tests.things import GREAT, refusal, told_things, wrong_things

BEYOND = (0, 9, 10, -1, -8, 64, GREAT, -GREAT)
NO_NUMBERS = (True, False, None, "1", "", [], [1], (), (1,), (1, 1), {}, {1: 1})


def no_boards():
    things = wrong_things()
    for wrong in BEYOND + NO_NUMBERS:
        for right in SIZES:
            things += [(wrong, right), (right, wrong)]
        things.append((wrong, wrong))
    for high, wide in all_boards():
        things += [[high, wide], (high, wide, 1), (1, high, wide), (high,), high, ((high, wide),)]
        things += [((high, wide), (high, wide)), [(high, wide)], {high: wide}, {(high, wide): True}, f"{high} {wide}"]
    return things


class IsBoardTest(unittest.TestCase):
    def test_every_board(self):
        for board in all_boards():
            self.assertIs(is_board(board), True, board)

    def test_whatever_is_no_board(self):
        for at, thing in enumerate(no_boards()):
            self.assertIs(is_board(thing), False, at)

    def test_all_small_numbers(self):
        for high in range(-10, 20):
            for wide in range(-10, 20):
                self.assertIs(is_board((high, wide)), high in SIZES and wide in SIZES)

    def test_truths_are_no_numbers(self):
        for thing in ((True, 1), (1, True), (True, True), (False, 1), (8, False)):
            self.assertIs(is_board(thing), False, thing)


class CellsOfTest(unittest.TestCase):
    def test_known_boards(self):
        self.assertEqual(cells_of((1, 1)), [(0, 0)])
        self.assertEqual(cells_of((1, 3)), [(0, 0), (0, 1), (0, 2)])
        self.assertEqual(cells_of((3, 1)), [(0, 0), (1, 0), (2, 0)])
        self.assertEqual(cells_of((2, 3)), [(0, 0), (0, 1), (0, 2), (1, 0), (1, 1), (1, 2)])
        self.assertEqual((cells_of((8, 8))[0], cells_of((8, 8))[-1]), ((0, 0), (7, 7)))

    def test_every_board(self):
        for high, wide in all_boards():
            cells = cells_of((high, wide))
            self.assertIs(cells.__class__, list)
            self.assertEqual(len(cells), high * wide)
            for ahead, behind in zip(cells, cells[1:]):
                self.assertLess(ahead, behind)
            for cell in cells:
                self.assertIs(cell.__class__, tuple)
                self.assertEqual([number.__class__ for number in cell], [int, int])
                self.assertTrue(0 <= cell[0] < high and 0 <= cell[1] < wide)

    def test_refuses_whatever_is_no_board(self):
        for at, thing in enumerate(no_boards()):
            self.assertIs(refusal(cells_of, thing), NoBoard, at)

    def test_refusal_is_a_sight_error(self):
        with self.assertRaises(SightError):
            cells_of((0, 1))
        with self.assertRaises(ValueError):
            cells_of(None)

    def test_what_was_told_is_the_askers_own(self):
        for board in all_boards():
            first = cells_of(board)
            kept = list(first)
            second = cells_of(board)
            self.assertIsNot(first, second)
            first.reverse()
            first.append("more")
            del first[0]
            self.assertEqual(second, kept)
            self.assertEqual(cells_of(board), kept)

    def test_a_refusal_changes_nothing(self):
        before = cells_of((2, 2))
        refusal(cells_of, [2, 2])
        self.assertEqual(cells_of((2, 2)), before)

    def test_nothing_handed_in_is_changed(self):
        things = told_things()
        before = copy.deepcopy(things)
        for thing in things:
            is_board(thing)
            refusal(cells_of, thing)
        self.assertTrue(things == before)


if __name__ == "__main__":
    unittest.main()
