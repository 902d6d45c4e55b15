"""Point [9]: written and read of apartrow.texts."""

import itertools
import unittest

from apartrow.errors import BadText
from apartrow.texts import read, written

NEAR = [
    # an empty text, and no things with something beside it
    "", " ", "  ", "\n", "\t", "--", "- ", " -", "-\n", "- -", "-1", "-*1", "-*0", "- 1*1", "1*1 -", "1*1-", "0",
    "-0*1", "0*0", "*", "**",
    # needless noughts and other signs
    "01*1", "00*1", "1*01", "1*00", "1*0001", "000*1", "0999*1", "+1*1", "1*+1", "-1*1", "1*-1", "1*1.0", "1.0*1",
    "1_0*1", "1*1_0", "1e2*1", "0x1*1", "1*0x1", "a*1", "1*a", "1x1", "1*1;", "(1*1)", "1,1", "1*1,2*1", "1:1",
    # a part that lacks something, or has too much
    "1", "*1", "1*", "1**1", "1*1*", "*1*1", "1*1*1", "12", "1 1", "1*1 2", "1*1 2*", "1*1 *2", "1 *1", "1* 1",
    "1 * 1",
    # blanks
    " 1*1", "1*1 ", "1*1  2*1", "1*12*1", "1*1\n", "\n1*1", "1*1\t2*1", "1*1\n2*1", " 1*1 2*1", "1*1 2*1 ",
    "1*1   2*1",
    # none of a kind, neighbours that belong together, kinds and numbers beyond the bounds
    "1*0", "1*1 2*0", "1*0 2*1", "1*1 2*0 1*1", "1*1 1*1", "1*2 1*3", "0*1 0*1", "2*1 1*1 1*1", "1*1 1*1 2*1",
    "1000*1", "1*1 1000*1", "9999*1", "10000*1", "99999999999*1", "1*1000001", "1*1000000 2*1", "1*600000 2*400001",
    "1*9999999", "1*10000000", "1*" + "9" * 30, "9" * 30 + "*1", "1*" + "9" * 5000, "9" * 5000 + "*1",
    "1*" + "0" * 5000, "0" * 5000 + "1*1",
]

NO_TEXTS = [
    None, True, False, 0, 1, 1.5, b"-", b"1*1", bytearray(b"-"), [], ["-"], ["1*1"], (), ("-",), {}, {"-": 1}, {"-"},
    object(), str, iter("-"), [1, 1], range(2),
]


class WrittenTest(unittest.TestCase):
    def test_by_hand(self):
        for heap, text in (
            ([], "-"), ([7], "7*1"), ([0], "0*1"), ([999], "999*1"), ([0, 999], "0*1 999*1"), ([7, 7], "7*2"),
            ([7, 3], "7*1 3*1"), ([3, 7], "3*1 7*1"), ([5, 5, 2, 5], "5*2 2*1 5*1"), ([0, 0, 0, 10, 10], "0*3 10*2"),
            ([1] * 10 + [100], "1*10 100*1"), ([0] * 1000000, "0*1000000"),
        ):
            with self.subTest(text):
                self.assertEqual(written(heap), text)
                self.assertIs(type(written(heap)), str)


class ReadTest(unittest.TestCase):
    def test_by_hand(self):
        for text, heap in (
            ("-", []), ("7*1", [7]), ("0*1", [0]), ("999*2", [999, 999]), ("5*2 2*1 5*1", [5, 5, 2, 5]),
            ("10*1 0*10", [10] + [0] * 10), ("1*1000000", [1] * 1000000),
            ("1*400000 2*600000", [1] * 400000 + [2] * 600000),
        ):
            with self.subTest(text):
                self.assertEqual(read(text), heap)
                self.assertIs(type(read(text)), list)
                self.assertEqual({type(kind) for kind in read(text)} - {int}, set())

    def test_what_is_near_to_what_is_written(self):
        for text in NEAR:
            with self.subTest(text[:40]):
                self.check_refused(text)

    def test_what_is_no_text(self):
        for value in NO_TEXTS:
            with self.subTest(repr(value)):
                self.check_refused(value)

    def check_refused(self, value):
        with self.assertRaises(BadText) as refused:
            read(value)
        self.assertIs(type(refused.exception), BadText)

    def test_just_what_is_written_is_read_by_trial(self):
        # Whatever is read of all short texts of these signs, is written so; whatever is written, is read.
        signs = "012* -"
        short = {written(list(heap)) for length in range(8) for heap in itertools.product((0, 1, 2), repeat=length)}
        short |= {written([kind] * many) for kind in (0, 1, 2, 10, 11, 12, 20, 21, 22) for many in range(223)}
        short |= {written([kind] * many) for kind in (100, 101, 102, 110, 210, 222) for many in range(23)}
        for length in range(6):
            for text in map("".join, itertools.product(signs, repeat=length)):
                try:
                    heap = read(text)
                except BadText:
                    self.assertNotIn(text, short)
                else:
                    self.assertEqual(written(heap), text)

    def test_every_other_sign(self):
        for code in range(127):
            sign = chr(code)
            for form in ("{}", "{}1*1", "1*1{}", "1*1 2{}1", "1{}*1", "1*{}1", "1*1{}2*1"):
                text = form.replace("{}", sign)
                try:
                    heap = read(text)
                except BadText:
                    continue
                self.assertIn(sign, "0123456789* -")
                self.assertEqual(written(heap), text)


class BothTest(unittest.TestCase):
    def test_read_of_written_is_the_heap_in_its_order(self):
        for length in range(7):
            for heap in itertools.product((0, 9, 10), repeat=length):
                self.assertEqual(read(written(list(heap))), list(heap))
        for kind in range(1000):
            self.assertEqual(read(written([kind, 5, kind, kind])), [kind, 5, kind, kind])
        great = [kind * kind % 1000 for kind in range(5000)]
        self.assertEqual(read(written(great)), great)

    def test_written_of_read_is_the_text(self):
        for text in ("-", "0*1", "999*7 0*3 999*1", "5*10 50*5 500*100 5*1"):
            self.assertEqual(written(read(text)), text)


if __name__ == "__main__":
    unittest.main()
