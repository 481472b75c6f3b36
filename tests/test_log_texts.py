"""[8.1], [8.2] of logs: log_text and read_log."""

import unittest

from rowasks.errors import AskError, NoText
from rowasks.rows import log_text, read_log
from things import neighbours, texts_up_to

LOGS = [
    [],
    [(0, "a", 0)],
    [(99, "zz", 99)],
    [(0, "a", -99)],
    [(10, "ab", -1), (10, "ab", -1)],
    [(0, "a", 5), (1, "b", -2), (4, "a", 7)],
    [(9, "a", 10), (3, "b", -20), (3, "a", 0), (0, "zz", 1)],
    [(moment, "k", moment - 50) for moment in range(100)],
    [(5, "ab", number) for number in range(-99, 100)],
    [(5, one + other, 1) for one in "amz" for other in ["", "a", "m", "z"]],
]

NO_WRITINGS = [
    # line feeds
    "0 a 0", "\n", "0 a 0\n\n", "\n0 a 0\n", "0 a 0\n\n1 a 0\n", "0 a 0\n1 a 0", "0 a 0 1 a 0\n", "0 a 01 a 0\n",
    "0\na 0\n", "0 a\n0\n", "\n\n",
    # blanks
    " ", " \n", " 0 a 0\n", "0 a 0 \n", "0  a 0\n", "0 a  0\n", "0a 0\n", "0 a0\n", "0a0\n", "0 a 0\n ", "0 a 0\n \n",
    "0 a - 1\n", "1 0 a 0\n", "0 a b 0\n", "  \n", "0 a \n", " a 0\n", "0  0\n",
    # numbers written another way
    "00 a 0\n", "01 a 0\n", "0 a 00\n", "0 a 01\n", "0 a -01\n", "007 a 0\n", "-0 a 0\n", "0 a -0\n", "0 a -00\n",
    "+0 a 0\n", "+1 a 0\n", "0 a +1\n", "0 a +0\n", "0 a --1\n", "0 a -\n", "0 a 1-\n", "0 a 1.0\n", "0 a 1e1\n",
    "0 a 1_0\n", "1_0 a 0\n", "0 a 0x1\n", "0 a one\n", "0 a True\n", "None a 0\n", "0 a None\n", "0 a ~\n",
    # keys
    "0 A 0\n", "0 aB 0\n", "0 AB 0\n", "0 abc 0\n", "0 1 0\n", "0 a1 0\n", "0 - 0\n", "0 'a' 0\n", "0 { 0\n", "0 ` 0\n",
    # out of bounds
    "100 a 0\n", "-1 a 0\n", "0 a 100\n", "0 a -100\n", "999 a 0\n", "0 a 12345678901234567890\n",
    "0 a " + "9" * 5000 + "\n", "9" * 5000 + " a 0\n",
    # other orders, parts and signs
    "a 0 0\n", "0 0 a\n", "0 a\n", "0\n", "a\n", "0 a 0 0\n", "0,a,0\n", "(0, 'a', 0)\n", "[]", "--\n", "~",
    # a right line does not make up for a wrong one
    "0 a 0\n1 A 0\n", "0 A 0\n1 a 0\n", "0 a 0\n1 a 0\n2 a\n",
]


class LogText(unittest.TestCase):
    def test_writings(self):
        self.assertEqual(log_text([]), "")
        self.assertEqual(log_text([(0, "a", 0)]), "0 a 0\n")
        self.assertEqual(log_text([(12, "ab", -34), (99, "z", 99)]), "12 ab -34\n99 z 99\n")

    def test_rows_are_written_as_they_stand(self):
        self.assertEqual(log_text([(9, "b", 1), (3, "a", 2), (9, "b", 1)]), "9 b 1\n3 a 2\n9 b 1\n")

    def test_what_is_handed_in_stays(self):
        rows = [(9, "b", 1), (3, "a", 2)]
        log_text(rows)
        self.assertEqual(rows, [(9, "b", 1), (3, "a", 2)])


class ReadLog(unittest.TestCase):
    def test_readings(self):
        self.assertEqual(read_log(""), [])
        self.assertEqual(read_log("0 a 0\n"), [(0, "a", 0)])
        self.assertEqual(read_log("12 ab -34\n99 z 99\n"), [(12, "ab", -34), (99, "z", 99)])

    def test_in_any_order(self):
        self.assertEqual(read_log("9 b 1\n3 a 2\n9 b 1\n"), [(9, "b", 1), (3, "a", 2), (9, "b", 1)])

    def test_kinds(self):
        rows = read_log("1 a -1\n")
        self.assertIs(type(rows), list)
        self.assertIs(type(rows[0]), tuple)
        self.assertEqual([type(part) for part in rows[0]], [int, str, int])

    def test_there_and_back(self):
        for rows in LOGS:
            with self.subTest(rows=rows):
                self.assertEqual(read_log(log_text(rows)), rows)

    def test_new_lists_each_time(self):
        for text in ["", "1 a 1\n"]:
            told = read_log(text)
            kept = list(told)
            told.append((5, "x", 5))
            self.assertEqual(read_log(text), kept)

    def test_what_is_no_writing(self):
        for text in NO_WRITINGS:
            with self.subTest(text=text[:40]), self.assertRaises(NoText):
                read_log(text)

    def test_all_short_texts_read_back_or_are_refused(self):
        # Whatever is read is written as the very text it was read from.
        read = []
        for text in texts_up_to("0a- \n", 6):
            try:
                rows = read_log(text)
            except AskError as refusal:
                self.assertIs(type(refusal), NoText)
            else:
                self.assertEqual(log_text(rows), text)
                read.append(text)
        self.assertEqual(sorted(read), ["", "0 a 0\n"])

    def test_one_sign_more_less_or_other(self):
        text = "10 ab -9\n7 c 0\n"
        for other in neighbours(text):
            try:
                rows = read_log(other)
            except NoText:
                continue
            self.assertEqual(log_text(rows), other)


if __name__ == "__main__":
    unittest.main()
