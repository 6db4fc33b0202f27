"""[A6]: module texts; [A2] (h) of texts."""

import copy
import unittest

from daywatches.bounds import MAX_TURN, MAX_WATCHES
from daywatches.errors import BadText, WatchError
from daywatches.forms import lot_error
from daywatches.texts import lot_text, parse_lot
from tests.lots import E, EDGES, LONG, T, small_lots
from tests.values import ANY_VALUES, NOT_TUPLES

FULL_TEXT = " ".join(["3:2"] * MAX_WATCHES)


class DocExamples(unittest.TestCase):
    def test_examples(self):
        self.assertEqual([lot_text(E), parse_lot("none"), parse_lot("5:4")], ["2:0 4:1 4:3", (), ((5, 4),)])
        with self.assertRaises(BadText) as caught:
            parse_lot("2:0 3:3")
        self.assertEqual(caught.exception.place, 1)


class LotTextTest(unittest.TestCase):
    def test_texts(self):
        self.assertEqual(lot_text(()), "none")
        self.assertEqual(lot_text(((1, 0),)), "1:0")
        self.assertEqual(lot_text(T), "2:0 3:0 4:1 6:5 12:7")
        self.assertEqual(lot_text(((4, 3), (2, 0), (4, 3))), "4:3 2:0 4:3")
        self.assertEqual(lot_text(((10, 0), (100, 10))), "10:0 100:10")
        self.assertEqual(lot_text(((MAX_TURN, MAX_TURN - 1),)), "1000000000000:999999999999")
        self.assertEqual(lot_text(((3, 2),) * MAX_WATCHES), FULL_TEXT)

    def test_texts_are_read_back(self):
        for lot in EDGES + LONG + small_lots():
            with self.subTest(lot):
                text = lot_text(lot)
                self.assertIs(type(text), str)
                self.assertEqual(parse_lot(text), lot)
                self.assertEqual(lot_text(parse_lot(text)), text)

    def test_by_name(self):
        self.assertEqual(lot_text(lot=E), "2:0 4:1 4:3")


class ParseLotTest(unittest.TestCase):
    def refused(self, value, place):
        with self.subTest(str(value)[:60]):
            before = copy.deepcopy(value)
            for _ in range(2):
                with self.assertRaises(BadText) as caught:
                    parse_lot(value)
                self.assertIs(type(caught.exception.place), type(place))
                self.assertEqual(caught.exception.place, place)
            self.assertEqual(value, before)

    def test_lots(self):
        self.assertEqual(parse_lot("2:0 4:1 4:3"), E)
        self.assertEqual(parse_lot("1:0"), ((1, 0),))
        self.assertEqual(parse_lot("1000000000000:0"), ((MAX_TURN, 0),))
        self.assertEqual(parse_lot("1000000000000:999999999999"), ((MAX_TURN, MAX_TURN - 1),))
        self.assertEqual(parse_lot(FULL_TEXT), ((3, 2),) * MAX_WATCHES)

    def test_what_is_told_is_a_lot_of_plain_tuples(self):
        for text in ("none", "5:4", FULL_TEXT):
            lot = parse_lot(text)
            self.assertIsNone(lot_error(lot))
            self.assertIs(type(lot), tuple)
            self.assertEqual({type(item) for item in lot} | {tuple}, {tuple})

    def test_what_is_no_string(self):
        for value in ANY_VALUES + NOT_TUPLES:
            if not isinstance(value, str):
                self.refused(value, None)
        for value in (E, ("2:0",), ["2:0"], {"2:0": 1}, b"2:0", 2, True):
            self.refused(value, None)

    def test_strings_of_any_kind(self):
        for value in ("", "1", "a\nb", "~" * 1000, "9" * 1000, "9" * 9000, "0" * 1000, "9" * 6000 + ":1"):
            self.refused(value, 0)

    def test_words_that_are_no_text_of_a_watch(self):
        words = [
            "", "2", "2:", ":0", ":", "::", "2:0:0", "2:0:", ":2:0", "0:0", "1:1", "2:2", "2:3", "-2:0", "2:-1", "2:-0",
            "+2:0", "2:+1", "02:0", "2:00", "2:01", "0x2:0", "2_0:1", "1e1:0", "2.0:0", "2:0,", "2;0", "(2,0)", "a:b",
            "2:a", "None:0", "True:0", "none", "None", "NONE", "2:0\n", "\n2:0", "2\n:0", "2:0\n3:0", "2:0\t", "2:\n",
            "1000000000001:0", "10000000000000:0", "01000000000000:0", "1000000000000:1000000000000",
            "\u0662:0", "2:\u0660", "\u00b2:0", "\uff12:0",
        ]
        for word in words:
            self.refused("2:0 " + word, 1)
            self.refused("2:0 " + word + " 3:0", 1)
            self.refused(word + " 3:0", 0)
            self.refused(word + " " + word, 0)
            if word != "none":
                self.refused(word, 0)

    def test_blanks(self):
        self.refused(" ", 0)
        self.refused("  ", 0)
        self.refused(" 2:0", 0)
        self.refused("2:0 ", 1)
        self.refused("2:0  3:0", 1)
        self.refused("2:0 3:0  4:0", 2)
        self.refused("2: 0", 0)
        self.refused("2 :0", 0)
        self.refused(" none", 0)
        self.refused("none ", 0)
        self.refused("none none", 0)

    def test_number_of_words(self):
        self.refused(FULL_TEXT + " 3:2", MAX_WATCHES)
        self.refused(FULL_TEXT + " x", MAX_WATCHES)
        self.refused(FULL_TEXT + " ", MAX_WATCHES)
        self.refused(FULL_TEXT + " 3:2" * 200, MAX_WATCHES)
        self.refused(FULL_TEXT + " 3:2 x", MAX_WATCHES)

    def test_the_first_wrong_word_is_told(self):
        for place in range(MAX_WATCHES):
            words = ["3:2"] * place + ["3:3"] + ["x"] * (MAX_WATCHES - place)
            self.refused(" ".join(words), place)

    def test_the_error_is_one_of_the_package(self):
        with self.assertRaises(WatchError):
            parse_lot(None)

    def test_what_the_package_returned_may_be_passed(self):
        self.assertEqual(parse_lot(lot_text(T)), T)
        self.refused(parse_lot("2:0"), None)
        self.refused(lot_text(T) + " " + lot_text(()), len(T))

    def test_by_name(self):
        self.assertEqual(parse_lot(value="5:4"), ((5, 4),))


if __name__ == "__main__":
    unittest.main()
