"""Points 2 and 24: maps written as texts, and read."""

import unittest

from standup.changes import same
from standup.errors import NoMap, NoText
from standup.texts import read, written
from tests.helper import (ALONE, BOW, CUBE, EACH_TO_EACH, FOUR, NO_MAPS, SPUR, STAR, TUBE, any_map, beside, check_own,
                          least_begin, refused, small_maps, told)

FOUR_TEXT = "0: 1 3 2\n1: 0 2 3\n2: 0 3 1\n3: 0 1 2"
SEVERAL = [ALONE, [[], []], [[1], [0]], FOUR, CUBE, STAR, BOW, SPUR, TUBE, EACH_TO_EACH, beside(ALONE, BOW, ALONE)]
SIXTY = "1" + "0" * 59

# What stands as row 1 of a text in the place of "1: 0": none of these is of the form.
WRONG_ROWS = """
|1|1 0|: 0|1:0|1 : 0|1 :0| 1: 0|1:  0|1: 0 |1: |1:  |1: 0  2|1: 0\t2|1:\t0|1\t: 0|1: 0\t|\t1: 0
|1:: 0|1: 0:|1: :0|1: 0: 2|1:: |::|1: 0 :|: 1: 0|1: 1:
|01: 0|1: 00|1: 01|1: 02|1: 0 00|00: 0|001:|1: 000
|+1: 0|-1: 0|1: +0|1: -0|1: -1|1: +2|1: 0 -2|1: - 0|1: 0-
|0: 0|2: 0|10: 0|11: 0|0:|2:|
|x: 0|1: x|one: 0|1: 0x|1: 0x0|1: 0.0|1: 0,2|1: 0;2|1; 0|1: 1e0|1: 1_0|1: 0_0|1: None|1: [0]|(1): 0|1: '0'
""".replace("\n", "").split("|")
# Other figures, other blanks and other line ends than those of the form.
STRANGE = ["1: \u0660", "\u0661: 0", "1: \uff10", "\uff11: 0", "1: \u00b2", "1: \u0966", "1:\u00a00", "1: 0\u00a0",
           "1:\u20070", "1:\u30000", "1: 0\r", "1: 0\x0b", "1: 0\x0c", "1: 0\x1c", "1: 0\u2028", "1: 0\u0085",
           "1\uff1a 0", "\ufeff1: 0", "1: 0\x00", "1: 0\u200b"]


class Written(unittest.TestCase):
    def test_by_hand(self):
        for orders, text in ((FOUR, FOUR_TEXT), (ALONE, "0:"), ([[], []], "0:\n1:"), ([[1], [0]], "0: 1\n1: 0"),
                             ([[1], [0], []], "0: 1\n1: 0\n2:"), ([[], [2], [1]], "0:\n1: 2\n2: 1"),
                             (STAR, "0: 1 2 3\n1: 0\n2: 0\n3: 0"),
                             ([[3, 2, 1], [0], [0], [0]], "0: 1 3 2\n1: 0\n2: 0\n3: 0"),
                             (BOW, "0: 1 2 3 4\n1: 0 2\n2: 0 1\n3: 0 4\n4: 0 3")):
            self.assertEqual(told(self, written, orders), text)

    def test_orders_begun_anywhere_are_written_alike(self):
        for turn in range(4):
            orders = [order[turn % len(order):] + order[:turn % len(order)] for order in FOUR]
            self.assertEqual(written(orders), FOUR_TEXT)

    def test_sixty_places(self):
        rows = written(EACH_TO_EACH).split("\n")
        self.assertEqual(len(rows), 60)
        for place, row in enumerate(rows):
            self.assertEqual(row, f"{place}:" + "".join(f" {other}" for other in range(60) if other != place))

    def test_is_read_back(self):
        maps = [orders for places in (1, 2, 3, 4) for orders in small_maps(places)]
        maps += SEVERAL + [any_map(seed, 12 + seed, 30) for seed in range(40)]
        for orders in maps:
            text = written(orders)
            self.assertIs(type(text), str)
            found = told(self, read, text)
            self.assertEqual(found, [least_begin(order) if order else [] for order in orders])
            self.assertIs(same(found, orders), True)
            self.assertEqual(written(found), text)


class Read(unittest.TestCase):
    def test_orders_are_begun_as_they_are_written(self):
        for text, orders in (("0:", [[]]), ("0: 1\n1: 0", [[1], [0]]), ("0:\n1:\n2:", [[], [], []]),
                             ("0: 3 2 1\n1: 0\n2: 0\n3: 0", [[3, 2, 1], [0], [0], [0]]),
                             ("0: 2 1\n1: 2 0\n2: 0 1", [[2, 1], [2, 0], [0, 1]]),
                             ("0: 2 1\n1: 0 2\n2: 1 0", [[2, 1], [0, 2], [1, 0]])):
            found = told(self, read, text)
            self.assertEqual(found, orders)
            self.assertEqual({type(number) for order in found for number in order} - {int}, set())
        for turn in range(1, 6):
            orders = [order[turn:] + order[:turn] for order in TUBE]
            text = "\n".join(" ".join([f"{place}:"] + [str(number) for number in order])
                             for place, order in enumerate(orders))
            self.assertEqual(read(text), orders)

    def test_rows_that_are_not_of_the_form(self):
        self.assertEqual(read("0: 1\n1: 0"), [[1], [0]])
        for row in WRONG_ROWS + STRANGE:
            self.assertEqual(refused(self, NoText, read, f"0: 1\n{row}").row, 1, row)
            self.assertEqual(refused(self, NoText, read, f"0: 1\n{row}\n2:").row, 1, row)
            self.assertEqual(refused(self, NoText, read, f"0: 1\n{row}\n3:").row, 1, row)

    def test_wrong_first_rows(self):
        for row in WRONG_ROWS + STRANGE + ["1:", "00:", "-0:", "+0:", "0", ":", " 0:", "0 :", "0: ", "0:\r"]:
            if row != "0:" and row != "0: 0":
                self.assertEqual(refused(self, NoText, read, row).row, 0, row)

    def test_the_first_wrong_row_is_told(self):
        good = [f"{place}:" for place in range(60)]
        for place in range(60):
            for wrong in ("", "x", f"{place}: ", f"{place + 1}:", f"{place}: 00", f"0{place}:"):
                rows = good[:place] + [wrong] + good[place + 1:]
                self.assertEqual(refused(self, NoText, read, "\n".join(rows)).row, place)
                rows = rows[:place + 1] + ["x"] * (59 - place)
                self.assertEqual(refused(self, NoText, read, "\n".join(rows)).row, place)
        self.assertEqual(read("\n".join(good)), [[] for place in range(60)])

    def test_empty_rows_and_line_ends(self):
        for text, row in (("", 0), ("\n", 0), ("0:\n", 1), ("\n0:", 0), ("0: 1\n1: 0\n", 2), ("0: 1\n\n1: 0", 1),
                          ("0:\n1:\n\n", 2), ("0: 1\r\n1: 0", 0), ("0: 1\r1: 0", 0), ("0: 1\n1: 0\r\n", 1),
                          ("0: 1\n\r1: 0", 1), ("0:\x0b1:", 0), ("0:\u20281:", 0), (" ", 0), (FOUR_TEXT + "\n", 4)):
            self.assertEqual(refused(self, NoText, read, text).row, row)

    def test_sixty_figures_are_a_number_word_and_sixty_one_are_none(self):
        for word in (SIXTY, "9" * 60, "1" * 60):
            self.assertEqual(refused(self, NoMap, read, f"0: 1\n1: 0 {word}").place, 1)
            self.assertEqual(refused(self, NoMap, read, f"0: {word}").place, 0)
            self.assertEqual(refused(self, NoText, read, f"0: 1\n1: 0 {word}0").row, 1)
            self.assertEqual(refused(self, NoText, read, f"0: {word}0").row, 0)
            self.assertEqual(refused(self, NoText, read, f"0: 0{word[1:]}").row, 0)
        for many in (61, 100, 5000):
            self.assertEqual(refused(self, NoText, read, "0: " + "1" * many).row, 0)
            self.assertEqual(refused(self, NoText, read, "0: " + "0" * many).row, 0)
            self.assertEqual(refused(self, NoText, read, "0:\n" + "1" * many + ":").row, 1)

    def test_what_is_of_the_form_but_no_map(self):
        for text, place in (("0: 0", 0), ("0: 1", 0), ("0: 1\n1:", 0), ("0:\n1: 0", 1), ("0: 1 1\n1: 0", 0),
                            ("0: 1\n1: 0 0", 1), ("0: 1\n1: 0 2", 1), ("0: 1\n1: 0 1", 1), ("0: 7\n1: 7", 0),
                            ("0: 1\n1: 0\n2: 0", 2), ("0: 1\n1: 0\n2: 60 61", 2)):
            self.assertEqual(refused(self, NoMap, read, text).place, place)
        for orders, place in NO_MAPS:
            rows = [" ".join([f"{number}:"] + [str(other) for other in order]) for number, order in enumerate(orders)]
            self.assertEqual(refused(self, NoMap, read, "\n".join(rows)).place, place)

    def test_no_text_goes_first(self):
        for text, row in (("0: 0\n", 1), ("0: 1\n1:\n2: 2\n4:", 3), ("0: 5\n1: 01", 1), ("0: 1 1\nx", 1)):
            self.assertEqual(refused(self, NoText, read, text).row, row)


class Own(unittest.TestCase):
    def test_told_lists_are_the_askers_own(self):
        for orders in SEVERAL:
            check_own(self, read, written(orders))


if __name__ == "__main__":
    unittest.main()
