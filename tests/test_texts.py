import random
import re
import unittest

from evenhand.errors import BadText
from evenhand.texts import read, written
from samples import BOUND, NO_LISTS, NO_NUMBERS, ROWS, drawn_row

WORD = r"(?:0|-?[1-9][0-9]*)"
FORM = re.compile(rf"{WORD}(?: {WORD})*")

SIGNS = [chr(code) for code in range(0, 127)]

NO_TEXTS = [value for value in NO_LISTS + NO_NUMBERS if not isinstance(value, str)]


def is_written(text):
    """Whether the text is as point 8 says, asked another way than the program asks."""
    if FORM.fullmatch(text) is None:
        return False
    return all(len(word) < 12 and -BOUND <= int(word) <= BOUND for word in text.split(" "))


class Texts(unittest.TestCase):
    def refused(self, text):
        with self.subTest(text=text[:60]):
            with self.assertRaises(BadText):
                read(text)


class Written(unittest.TestCase):
    def test_told(self):
        self.assertEqual(written([0]), "0")
        self.assertEqual(written([7]), "7")
        self.assertEqual(written([-7]), "-7")
        self.assertEqual(written([3, 1, 2]), "3 1 2")
        self.assertEqual(written([10, 0, -1, 200]), "10 0 -1 200")
        self.assertEqual(written([BOUND, -BOUND]), "1000000 -1000000")
        self.assertEqual(written([0, 0]), "0 0")

    def test_a_text_and_the_row_as_it_was(self):
        for row in ROWS:
            kept = list(row)
            self.assertIs(type(written(row)), str)
            self.assertTrue(is_written(written(row)))
            self.assertEqual(row, kept)

    def test_the_argument_bears_its_name(self):
        self.assertEqual(written(row=[1, 2]), "1 2")


class Read(Texts):
    def test_told(self):
        self.assertEqual(read("0"), [0])
        self.assertEqual(read("-7"), [-7])
        self.assertEqual(read("3 1 2"), [3, 1, 2])
        self.assertEqual(read("10 0 -1 200"), [10, 0, -1, 200])
        self.assertEqual(read("1000000 -1000000"), [BOUND, -BOUND])
        self.assertEqual(read("999999 -999999 100000 -100000"), [999999, -999999, 100000, -100000])

    def test_each_row_is_read_back(self):
        draw = random.Random(40)
        rows = ROWS + [drawn_row(draw, count, -reach, reach) for count in (1, 2, 5, 100)
                       for reach in (1, 9, 10, 99, 1000, BOUND)]
        for row in rows:
            self.assertEqual(read(written(row)), row)
            self.assertEqual(written(read(written(row))), written(row))

    def test_shares_near_each_count_of_figures(self):
        for power in range(8):
            for share in range(10 ** power - 2, 10 ** power + 3):
                for number in (share, -share):
                    if -BOUND <= number <= BOUND:
                        self.assertEqual(read(written([number])), [number])
                        self.assertEqual(read(f"{number} 5"), [number, 5])
                    else:
                        self.refused(f"{number}")
                        self.refused(f"{number} 5")

    def test_a_new_list_each_time(self):
        first = read("1 2")
        self.assertIs(type(first), list)
        self.assertEqual([type(share) for share in first], [int, int])
        first.append(None)
        self.assertEqual(read("1 2"), [1, 2])

    def test_the_argument_bears_its_name(self):
        self.assertEqual(read(text="1 2"), [1, 2])


class Refused(Texts):
    def test_no_text_at_all(self):
        self.refused("")

    def test_blanks(self):
        for text in (" ", "  ", " 1", "1 ", " 1 ", "1  2", "1 2 ", " 1 2", "1   2", "- 1", "1 - 2", "1 2  "):
            self.refused(text)

    def test_other_signs_between_or_around(self):
        for sign in ("\t", "\n", "\r", "\v", "\f", "\0", ",", ";", ", ", "_", ".", "/", "+"):
            self.refused(f"1{sign}2")
            self.refused(f"1 {sign}2")
            self.refused(f"1{sign} 2")
            self.refused(f"1 2{sign}")
            self.refused(f"{sign}1 2")

    def test_needless_noughts(self):
        for text in ("00", "000", "01", "-01", "001", "1 02", "02 1", "-0001", "0000001", "01000000", "00000000"):
            self.refused(text)

    def test_signs_ahead(self):
        for text in ("-0", "0 -0", "-0 0", "-00", "+1", "+0", "-", "--1", "+-1", "-+1", "1-", "1 -", "- 1", "1 +2"):
            self.refused(text)

    def test_shares_beyond_the_bounds(self):
        for text in ("1000001", "-1000001", "0 1000001", "-1000001 0", "2000000", "9999999", "-9999999", "10000000",
                     "-10000000", "99999999", "100000000000"):
            self.refused(text)

    def test_other_ways_to_write_a_number(self):
        for text in ("1.0", "1.", "1e3", "0x1", "0b1", "0o1", "1_0", "1_000", "1,000", "1L", "a", "None", "True",
                     "nan", "inf", "[1, 2]", "[1 2]", "(1)", "'1'", "1'000", "one"):
            self.refused(text)

    def test_very_long_texts(self):
        for many in (100, 4299, 4301, 100000):
            for sign in ("0", "1", "9", "-", " ", "a"):
                self.refused(sign * many)
                self.refused("-" + sign * many)
                self.refused("1 " + sign * many)

    def test_what_is_no_text(self):
        for number, value in enumerate(NO_TEXTS + [[1, 2], ["1", "2"], bytearray(b"1"), memoryview(b"1"), b"1 2"]):
            with self.subTest(number=number, kind=type(value).__name__):
                with self.assertRaises(BadText):
                    read(value)


class Changed(Texts):
    """Every text one sign away from what is written, held against the form told another way."""

    STARTS = ["0", "7", "-7", "10 0", "-1 20", "1000000", "-1000000", "999999 1", "5 -5 0 5", "100 -200 3"]

    def held(self, text):
        if is_written(text):
            self.assertEqual(written(read(text)), text)
        else:
            self.refused(text)

    def test_a_sign_put_in(self):
        for start in self.STARTS:
            for place in range(len(start) + 1):
                for sign in SIGNS:
                    self.held(start[:place] + sign + start[place:])

    def test_a_sign_left_out(self):
        for start in self.STARTS:
            for place in range(len(start)):
                self.held(start[:place] + start[place + 1:])

    def test_a_sign_changed(self):
        for start in self.STARTS:
            for place in range(len(start)):
                for sign in SIGNS:
                    self.held(start[:place] + sign + start[place + 1:])

    def test_drawn_texts(self):
        draw = random.Random(41)
        for turn in range(20000):
            self.held("".join(draw.choices("0019- ", k=draw.randint(1, 9))))


class LongTexts(unittest.TestCase):
    def test_as_many_shares_as_one_likes(self):
        row = drawn_row(random.Random(42), 200000, -BOUND, BOUND)
        text = written(row)
        self.assertEqual(text.count(" "), len(row) - 1)
        self.assertEqual(read(text), row)
        for wrong in (text + " ", " " + text, text + " -0", "01 " + text, text + "\n", text + " 1000001"):
            with self.assertRaises(BadText):
                read(wrong)


if __name__ == "__main__":
    unittest.main()
