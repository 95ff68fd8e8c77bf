import unittest
from itertools import product

from towerstair.errors import BadStairs, BadText, StairError
from towerstair.texts import read, written
from trying import NO_STAIRS, small_stairs

SIXTY = 10 ** 60 - 1

NO_TEXTS = [
    None, 0, 7, True, False, b"", b"1 2", b"-", [], [1, 2], ["1", "2"], ["-"], (), ("1",), {}, {"1": 2}, {"1"},
    object(), str, iter("1"), 1j,
]

BAD_TEXTS = [
    "", " ", "  ", "--", "- ", " -", "- -", "-1", "1 -", "- 1", "1-", "-0", "1 -2", "0 -",
    "00", "01", "007", "0 00", "0 01", "1 02", "1 2 03", "00 1", "000",
    " 1", "1 ", "1  2", " 1 2", "1 2 ", "1   2", "0  0",
    "1\n", "\n1", "1\n2", "1 \n2", "1\t2", "1\t", "\t", "\n", "-\n", "1\r",
    "1\x0b2", "1\x0c2", "1\x00", "\x00", "1\x1f2",
    "2 1", "1 0", "1 2 1", "0 3 2 3", "10 9", "100 99",
    "+1", "1 +2", "1_0", "1,2", "1, 2", "1.0", "1.", ".1", "1e3", "1E3", "0x1", "0b1", "0o1", "1L", "1j", "1/2",
    "a", "one", "1 a", "a 1", "[1, 2]", "[]", "(1)", "None", "True", "\"1\"", "'1'", "1;2", "1|2", "~", "1~", "1 2 ~",
    "1" + "0" * 60, "9" * 61, "1 " + "1" * 61, "1" * 61 + " " + "1" * 61, "9" * 5000, "1 " + "9" * 5000,
    "0" * 61, "0" + "1" * 60, "0" + "1" * 59, "-" + "1" * 60, "+" + "1" * 59,
]


def is_read(text):
    try:
        read(text)
    except BadText:
        return False
    return True


class Written(unittest.TestCase):
    def test_ordinary(self):
        self.assertEqual(written([1, 2, 4]), "1 2 4")
        self.assertEqual(written([10, 10, 205]), "10 10 205")
        self.assertIs(type(written([3, 40])), str)

    def test_none(self):
        self.assertEqual(written([]), "-")

    def test_heights_of_0(self):
        self.assertEqual(written([0]), "0")
        self.assertEqual(written([0, 0, 30]), "0 0 30")

    def test_sixty_figures(self):
        self.assertEqual(written([SIXTY]), "9" * 60)
        self.assertEqual(written([10 ** 59, SIXTY, SIXTY]), "1" + "0" * 59 + " " + "9" * 60 + " " + "9" * 60)

    def test_sixty_one_figures(self):
        for wrong in [[SIXTY + 1], [SIXTY + 2], [0, SIXTY + 1], [1, 2, 10 ** 61], [SIXTY, SIXTY + 1], [10 ** 5000]]:
            kept = list(wrong)
            self.assertRaises(BadStairs, written, wrong)
            self.assertTrue(wrong == kept)

    def test_many_columns(self):
        self.assertEqual(written([8] * 30000), "8 " * 29999 + "8")

    def test_stairs_stay(self):
        stairs = [0, 1, 1]
        self.assertEqual(written(stairs), written(stairs))
        self.assertEqual(stairs, [0, 1, 1])

    def test_refused(self):
        for wrong in NO_STAIRS:
            with self.subTest(wrong=type(wrong)):
                self.assertRaises(BadStairs, written, wrong)


class Read(unittest.TestCase):
    def test_ordinary(self):
        self.assertEqual(read("1 2 4"), [1, 2, 4])
        self.assertEqual(read("10 10 205"), [10, 10, 205])
        told = read("3 40")
        self.assertIs(type(told), list)
        self.assertEqual([type(height) for height in told], [int, int])

    def test_edges(self):
        self.assertEqual(read("-"), [])
        self.assertEqual(read("0"), [0])
        self.assertEqual(read("0 0 0 7"), [0, 0, 0, 7])
        self.assertEqual(read("9 10"), [9, 10])
        self.assertEqual(read("9" * 60), [SIXTY])
        self.assertEqual(read("5 1" + "0" * 59 + " " + "9" * 60), [5, 10 ** 59, SIXTY])

    def test_the_list_is_new(self):
        for text in ["-", "1 2"]:
            kept = list(read(text))
            read(text).append(9)
            self.assertEqual(read(text), kept)

    def test_other_texts_are_refused(self):
        for text in BAD_TEXTS:
            with self.subTest(text=text):
                self.assertRaises(BadText, read, text)

    def test_no_texts_are_refused(self):
        for wrong in NO_TEXTS:
            with self.subTest(wrong=type(wrong)):
                self.assertRaises(BadText, read, wrong)

    def test_falling_heights_are_refused_as_texts(self):
        with self.assertRaises(StairError) as caught:
            read("2 1")
        self.assertIs(type(caught.exception), BadText)

    def test_each_sign_alone_and_beside_figures(self):
        for sign in [chr(code) for code in range(ord("~") + 1)]:
            figure = sign in "0123456789"
            with self.subTest(sign=sign):
                self.assertIs(is_read(sign), figure or sign == "-")
                self.assertIs(is_read("1" + sign + "2"), figure or sign == " ")
                self.assertIs(is_read("1 " + sign), figure and sign != "0")
                self.assertIs(is_read(sign + " 9"), figure)
                self.assertIs(is_read("7" + sign), figure)


class WayBack(unittest.TestCase):
    def test_from_stairs(self):
        for stairs in small_stairs():
            self.assertEqual(read(written(stairs)), stairs)
        tens = [10 ** column for column in range(60)]
        for stairs in [tens, [9, 10, 99, 100], [SIXTY], [0, SIXTY], [10 ** 59, 10 ** 59]]:
            self.assertEqual(read(written(stairs)), stairs)

    def test_from_all_short_texts(self):
        some = {written(stairs) for stairs in small_stairs(3, 22)}
        texts = ["".join(signs) for many in range(6) for signs in product("012 -", repeat=many)]
        good = [text for text in texts if is_read(text)]
        self.assertEqual([written(read(text)) for text in good], good)
        self.assertEqual([text for text in texts if text in some and text not in good], [])


if __name__ == "__main__":
    unittest.main()
