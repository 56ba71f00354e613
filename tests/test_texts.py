import itertools
import random
import re
import unittest

from samples import GOOD_TABLES, Asks, all_counts, bad_tables, many_tables, odd_things
from unseen.errors import BadTable, BadText
from unseen.texts import read, written

NUMBER = re.compile(r"0|-?[1-9][0-9]?|-?100", re.ASCII)
SIGNS = "".join(chr(place) for place in range(ord(" "), ord("~") + 1)) + "\t\n"


def reckoned(text):
    """The table that the text is written for, or None."""
    rows = [row.split(" ") for row in text.split("; ")]
    if not all(NUMBER.fullmatch(word) for row in rows for word in row):
        return None
    if len(rows) > 4 or len(rows[0]) > 4 or any(len(row) != len(rows[0]) for row in rows):
        return None
    return [[int(word) for word in row] for row in rows]


class TestWritten(Asks, unittest.TestCase):
    def test_by_hand(self):
        for table, text in (([[0]], "0"), ([[7]], "7"), ([[-7]], "-7"), ([[100, -100]], "100 -100"),
                            ([[1, 2], [3, 4]], "1 2; 3 4"), ([[1], [2], [3], [4]], "1; 2; 3; 4"),
                            ([[10, -20, 0, 5]], "10 -20 0 5"), ([[0, -1, 1], [1, 0, -1]], "0 -1 1; 1 0 -1")):
            told = written(table)
            self.assertEqual(told, text)
            self.assertIs(type(told), str)
            self.assertEqual(read(text), table)

    def test_every_number(self):
        for number in range(-100, 101):
            self.assertEqual(written([[number]]), f"{number:d}")
            self.assertEqual(read(f"{number:d}"), [[number]])

    def test_bad_tables_are_refused(self):
        for thing in bad_tables():
            self.refuses(BadTable, written, thing)

    def test_nothing_is_kept_or_changed(self):
        for table in GOOD_TABLES:
            self.leaves_alone(written, table)


class TestRead(Asks, unittest.TestCase):
    def check(self, text):
        table = reckoned(text)
        if table is None:
            self.refuses(BadText, read, text)
        else:
            told = read(text)
            self.assertEqual(told, table)
            self.assertEqual(written(told), text)
            self.assertTrue(all(type(number) is int for row in told for number in row))
        return table is not None

    def test_what_is_written_is_read(self):
        for table in GOOD_TABLES + list(many_tables(70, 30)):
            self.assertEqual(read(written(table)), table)
            self.assertTrue(self.check(written(table)))

    def test_texts_that_are_nearly_as_written(self):
        for text in ("", " ", ";", "; ", "-", "--1", "-0", "00", "01", "-01", "007", "0 -0", "+1", "1.0", "1e1", "0x1",
                     "1_0", "101", "-101", "1000", "99999", "1 ", " 1", "1  2", "1\t2", "1\n2", "1\n", "\n1", "\t1",
                     "1,2", "1, 2", "1;2", "1 ;2", "1 ; 2", "1;  2", "1; 2;", "1; 2; ", "; 1", "1;; 2", "1; ; 2",
                     "1;\n2", "1;\t2", "1 2; 3", "1; 2 3", "1 2; 3 4; 5", "1 2 3 4 5", "1; 2; 3; 4; 5", "- 1", "1-",
                     "1 -", "-1-", "1 - 2", "[[1]]", "[1]", "1 2; 3 x", "one", "True", "None", "1/2", "(1, 2)", "~",
                     "1 2 3 4 5; 1 2 3 4 5", "0; 0; 0; 0; 0", "1 2;3 4", "1 2 ;3 4", "1 2: 3 4", "100 101", "-100 -101"):
            self.refuses(BadText, read, text)
            self.assertIsNone(reckoned(text))

    def test_signs_beyond_the_tilde(self):
        for text in ("\u0661", "\uff11", "1\u00a02", "1\u20032", "\u22121", "\u00b9", "1;\u00a02", "\x00", "1\x00", "1\r",
                     "1\x0b2", "1\x1f2", "\ufeff1", "\ud800", "1\u200b"):
            self.refuses(BadText, read, text)

    def test_every_change_of_one_sign(self):
        taken = 0
        for table in ([[0]], [[-10, 5]], [[100], [-100]], [[1, 20], [-3, 0]]):
            text = written(table)
            for place in range(len(text) + 1):
                taken += self.check(text[:place] + text[place + 1:])
                for sign in SIGNS:
                    taken += self.check(text[:place] + sign + text[place:])
                    taken += self.check(text[:place] + sign + text[place + 1:])
        self.assertGreater(taken, 100)

    def test_every_short_text(self):
        taken = 0
        for length in range(7):
            for signs in itertools.product("01-; ", repeat=length):
                taken += self.check("".join(signs))
        self.assertGreater(taken, 100)

    def test_every_number_near_the_bounds(self):
        for number in range(-1100, 1101):
            for before in ("", "0", "-", "+", " "):
                self.check(f"{before}{number}")

    def test_every_count_of_rows_and_columns(self):
        for rows in range(1, 7):
            for columns in range(1, 7):
                text = "; ".join([" ".join(["5"] * columns)] * rows)
                self.assertEqual(self.check(text), (rows, columns) in all_counts())

    def test_rows_of_other_counts(self):
        chance = random.Random(71)
        for turn in range(300):
            counts = [chance.randint(0, 5) for row in range(chance.randint(1, 5))]
            self.check("; ".join(" ".join(["-3"] * count) for count in counts))

    def test_long_texts(self):
        for text in ("1" * 5000, "-" + "9" * 5000, "0" * 5000, "1 " * 50000, "1; " * 50000 + "1", " " * 50000,
                     " ".join(["1"] * 50000), "0" * 5000 + "1"):
            self.refuses(BadText, read, text)

    def test_what_is_no_text_is_refused(self):
        things = [thing for thing in odd_things() if not isinstance(thing, str)]
        things += [b"1", b"1 2; 3 4", bytearray(b"1"), ["1"], ("1",), {"1": 1}, {"1"}, [[1]], 7, -7, 0.5, [["1"]], str]
        for thing in things:
            self.refuses(BadText, read, thing)

    def test_each_table_is_the_askers_own(self):
        self.leaves_alone(read, "1 2; 1 2")
        self.leaves_alone(read, "0")


if __name__ == "__main__":
    unittest.main()
