"""[38]: a journal."""

import random
import unittest

from tests import support
from wellstrewn import journal
from wellstrewn.errors import Wrong

SIGNS = "".join([chr(code) for code in range(32, 127)])
ROWS = ((), ("a",), ("a", "b"), ("a", "a", "a"), (" ",), (" a", "a ", "  "), ("0 66 a", "1", "~~"), (SIGNS, SIGNS[::-1]),
        ("book x y|z", "race x  y 0", "-"), tuple("abcdefghijkl"))


def sum_by_hand(ahead, record):
    """The SUM as a sum of powers."""
    total = ahead * 97 ** len(record)
    for k, sign in enumerate(record):
        total += (SIGNS.index(sign) + 1) * 97 ** (len(record) - 1 - k)
    return total % (10 ** 9 + 7)


def lines_by_hand(records):
    return ["%d %d %s\n" % (i, sum_by_hand(0, "".join(records[:i + 1])), record) for i, record in enumerate(records)]


def opened_by_hand(text):
    """As many RECORDS as can be such that their JOURNAL stands at the beginning, sought by lines."""
    records = []
    for line in text.split("\n"):
        more = records + [" ".join(line.split(" ")[2:])]
        if more[-1] == "" or not set(more[-1]) <= set(SIGNS) or not text.startswith("".join(lines_by_hand(more))):
            break
        records = more
    return tuple(records)


def some_records(rng, many):
    signs = rng.choice((SIGNS, "ab", " a", "01 ", SIGNS))
    return tuple(["".join([rng.choice(signs) for _ in range(rng.randint(1, 9))]) for _ in range(many)])


class Sums(support.SameAgain, unittest.TestCase):

    def test_sums(self):
        rng = random.Random(270)
        for _ in range(200):
            record, = some_records(rng, 1)
            for ahead in (0, 1, rng.randrange(10 ** 9 + 7), 10 ** 9 + 6):
                found = self.answer(journal.sum_behind, ahead, record)
                self.assertEqual(repr(found), repr(sum_by_hand(ahead, record)))

    def test_each_sign(self):
        for k, sign in enumerate(SIGNS):
            self.assertEqual(journal.sum_behind(0, sign), k + 1)
            self.assertEqual(journal.sum_behind(1, sign), 97 + k + 1)

    def test_a_long_record(self):
        self.assertEqual(journal.sum_behind(7, SIGNS * 40), sum_by_hand(7, SIGNS * 40))


class Journals(support.SameAgain, unittest.TestCase):

    def test_journals(self):
        rng = random.Random(271)
        for records in ROWS + tuple([some_records(rng, many) for many in range(12)]):
            right = "".join(lines_by_hand(records))
            self.assertEqual(self.answer(journal.journal_of, records), right)
            self.assertEqual(self.answer(journal.journal_of, list(records)), right)
            self.assertEqual(self.answer(journal.opened, right), records)

    def check(self, text, at_least=()):
        right = opened_by_hand(text)
        found = self.answer(journal.opened, text)
        self.assertEqual(repr(found), repr(right), text)
        self.assertTrue(text.startswith(journal.journal_of(found)))
        self.assertEqual(found[:len(at_least)], at_least)
        self.assertEqual(self.answer(journal.with_record, text, "x y"), "".join(lines_by_hand(found + ("x y",))))
        return found

    def test_cut_at_each_sign(self):
        rng = random.Random(272)
        for records in ROWS[1:7] + (some_records(rng, 5), some_records(rng, 9)):
            text = journal.journal_of(records)
            for cut in range(len(text) + 1):
                self.assertEqual(self.check(text[:cut]), records[:text[:cut].count("\n")])

    def test_a_sign_otherwise(self):
        rng = random.Random(273)
        for records in (("a", "b", "cd"), some_records(rng, 4), (" ", " x")):
            text = journal.journal_of(records)
            for k in range(len(text)):
                for sign in (" ", "0", "7", "~", "\n", "a", ""):
                    ahead = text[:k].count("\n")
                    other = text[:k] + sign + text[k + 1:]
                    found = self.check(other, records[:ahead])
                    if other != text:
                        self.assertEqual(found, records[:ahead])
                    self.check(text[:k] + sign + text[k:], records[:ahead])

    def test_lines_otherwise(self):
        rng = random.Random(274)
        for records in (tuple("abcde"), tuple("aaaa"), some_records(rng, 6)):
            lines = lines_by_hand(records)
            for k in range(len(lines)):
                self.assertEqual(self.check("".join(lines[:k] + lines[k + 1:])), records[:k])
                self.assertEqual(self.check("".join(lines[:k + 1] + lines[k:])), records[:k + 1])
                for j in range(k):
                    other = lines[:j] + [lines[k]] + lines[j + 1:k] + [lines[j]] + lines[k + 1:]
                    self.assertEqual(self.check("".join(other)), records[:j])

    def test_text_behind(self):
        text = journal.journal_of(("a", "b"))
        for behind in ("x", "2", "\n", " ", "2 \n", "2 5 c\n", "3 0 c\n", "\n" + text, text):
            self.assertEqual(self.check(text + behind), ("a", "b"))

    def test_lines_that_are_nearly_right(self):
        for text in ("", "\n", "0 66 a", "0  66 a\n", " 0 66 a\n", "0 66  a\n", "00 66 a\n", "0 066 a\n", "+0 66 a\n",
                     "1 66 a\n", "0 66 a \n", "0 66 \n", "0 66\n", "0 0 \n", "0\n", "0 a 66\n", "0 67 a\n", "0,66,a\n",
                     "0 1000000073 a\n", "0 -999999941 a\n", "a\n0 66 a\n"):
            self.assertEqual(self.check(text), (), text)
        self.assertEqual(self.check("0 %d  a\n" % sum_by_hand(0, " a")), (" a",))
        self.assertEqual(self.check("0 %d a \n" % sum_by_hand(0, "a ")), ("a ",))
        self.assertEqual(self.check("0 1  \n"), (" ",))

    def test_signs_that_no_record_has(self):
        for sign in ("\t", "\r", chr(127), chr(233)):
            with self.assertRaises(Wrong) as caught:
                journal.with_record("", "a" + sign)
            self.assertEqual(caught.exception.place, 1)
            total = 0
            for code in [ord(other) for other in "a" + sign]:
                total = (total * 97 + code - 32 + 1) % (10 ** 9 + 7)
            self.assertEqual(journal.opened("0 %d a%s\n" % (total, sign)), ())

    def test_wrong_arguments(self):
        for value in support.STRANGE:
            if not isinstance(value, str):
                for function, arguments in [(journal.opened, (value,)), (journal.with_record, (value, "a")),
                                            (journal.with_record, (value, None))]:
                    with self.assertRaises(Wrong) as caught:
                        self.answer(function, *arguments)
                    self.assertEqual(repr(caught.exception.place), "0")
            if not isinstance(value, str) or value == "" or "\n" in value:
                with self.assertRaises(Wrong) as caught:
                    self.answer(journal.with_record, "0 66 a\n", value)
                self.assertEqual(repr(caught.exception.place), "1")
            else:
                self.assertEqual(journal.with_record("0 66 a", value), "".join(lines_by_hand([value])))


if __name__ == "__main__":
    unittest.main()
