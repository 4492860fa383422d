"""Requests written as a text, and read again."""

import random
import unittest

from spantolls.errors import BadRequests, BadText
from spantolls.texts import read, written
from tests import plain

SIXTY = 10 ** 60 - 1
HUGE = 10 ** 5000

PAIRS = [
    ([], "-"),
    ([(0, 0, 0)], "0..0:0"),
    ([(1, 3, 5)], "1..3:5"),
    ([(-3, -1, 5)], "-3..-1:5"),
    ([(-3, 0, 5), (0, 12, 0)], "-3..0:5 0..12:0"),
    ([(10, 20, 100), (9, 9, 7), (-10, 10, 1)], "10..20:100 9..9:7 -10..10:1"),
    ([(1, 2, 3)] * 3, "1..2:3 1..2:3 1..2:3"),
    ([(-SIXTY, SIXTY, SIXTY)], "-" + "9" * 60 + ".." + "9" * 60 + ":" + "9" * 60),
    ([(10 ** 59, 10 ** 59, 10 ** 59)], "1" + "0" * 59 + "..1" + "0" * 59 + ":1" + "0" * 59),
]


class Written(unittest.TestCase):
    def test_sign_by_sign(self):
        for requests, text in PAIRS:
            self.assertEqual(written(requests), text)
            self.assertIs(type(written(requests)), str)

    def test_numbers_of_sixty_one_figures_are_refused(self):
        for number in (SIXTY + 1, 10 ** 61 - 1, 10 ** 61, 10 ** 100, HUGE):
            for request in (
                (0, 0, number), (0, number, 0), (-number, 0, 0), (number, number, 0), (-number, -number, 0),
                (-number, number, number),
            ):
                for requests in ([request], [(1, 2, 3), request], [request, (1, 2, 3)]):
                    with self.assertRaises(BadRequests) as told:
                        written(requests)
                    self.assertIs(type(told.exception), BadRequests)

    def test_numbers_of_sixty_figures_are_written(self):
        for request in ((-SIXTY, -SIXTY, 0), (SIXTY, SIXTY, 0), (0, 0, SIXTY), (-SIXTY, SIXTY, SIXTY)):
            self.assertEqual(read(written([request])), [request])


class Read(unittest.TestCase):
    def test_what_is_written(self):
        for requests, text in PAIRS:
            told = read(text)
            self.assertEqual(told, requests)
            self.assertIs(type(told), list)
            for request in told:
                self.assertIs(type(request), tuple)
                self.assertEqual([type(number) for number in request], [int] * 3)

    def test_read_again_it_is_the_requests(self):
        chance = random.Random(12)
        for turn in range(300):
            size = 10 ** chance.choice((1, 2, 9, 30, 59))
            requests = plain.some_requests(chance, chance.randrange(6), size, size, size)
            self.assertEqual(read(written(requests)), requests)

    def test_many_requests(self):
        requests = plain.some_requests(random.Random(13), 5000, 1000, 50, 10 ** 9)
        self.assertEqual(read(written(requests)), requests)


class NotWrittenSo(unittest.TestCase):
    def refused(self, text):
        words = repr(text) if isinstance(text, str) else None
        with self.assertRaises(BadText, msg=words) as told:
            read(text)
        self.assertIs(type(told.exception), BadText)

    def test_blanks_and_other_gaps(self):
        for text in (
            "", " ", "  ", " 1..3:5", "1..3:5 ", "1..3:5  2..3:4", "1..3:5\n", "\n1..3:5", "1..3:5\n2..3:4",
            "1..3:5\t2..3:4", "1 ..3:5", "1.. 3:5", "1..3 :5", "1..3: 5", "1. .3:5", "- 1..3:5", "\n", "\t",
            "1..3:5,2..3:4", "1..3:5 \n2..3:4", "1..3:5\r\n", "1..3:5\r2..3:4",
        ):
            self.refused(text)

    def test_none_beside_others_or_otherwise(self):
        for text in ("--", "- ", " -", "-\n", "- -", "- 1..3:5", "1..3:5 -", "-1", "0", "[]", "None"):
            self.refused(text)

    def test_signs_of_numbers(self):
        for text in (
            "+1..3:5", "1..+3:5", "1..3:+5", "-0..3:5", "-1..-0:5", "0..-0:0", "-0..-0:0", "1..3:-5", "1..3:-0",
            "--1..3:5", "-..3:5", "1..-:5", "1..3:-", "-1..3:--5",
        ):
            self.refused(text)

    def test_a_needless_nought(self):
        for text in (
            "01..3:5", "1..03:5", "1..3:05", "00..0:0", "0..00:0", "0..0:00", "-01..3:5", "-3..-01:5", "1..3:00",
        ):
            self.refused(text)

    def test_a_last_day_before_the_first(self):
        for text in ("3..1:5", "1..0:5", "0..-1:5", "-1..-2:5", "1..3:5 3..1:5", "3..1:5 1..3:5", "10..9:1"):
            self.refused(text)

    def test_parts_left_out_or_one_more(self):
        for text in (
            "1", "1..3", "1..:5", "..3:5", "1..3:", ":5", "..", ":", "..:", "1:5", "1.3:5", "1...3:5", "1..3::5",
            "1..2..3:5", "1..3:5:5", "1..3:5..6", "1:2..3", "1..3;5", "1,,3:5", "1--3:5", "1..3.5:5", "(1, 3, 5)",
            "1..3:5:", "1..3:5.", "..1..3:5",
        ):
            self.refused(text)

    def test_other_ways_to_write_numbers(self):
        for text in ("1_0..30:5", "1..3:1_0", "0x1..3:5", "1e1..30:5", "1..3:5.0", "a..b:c", "1..3:5L", "one..3:5"):
            self.refused(text)

    def test_numbers_of_sixty_one_figures(self):
        long = "1" + "0" * 60
        for text in (f"{long}..{long}:1", f"1..{long}:1", f"-{long}..1:1", f"-{long}..-{long}:1", f"1..1:{long}"):
            self.refused(text)
        for count in (61, 5000, 100000):
            self.refused("1..3:" + "9" * count)
            self.refused("1..3:" + "0" * count)
            self.refused("0" * count + "1..3:5")

    def test_numbers_of_sixty_figures_pass(self):
        for number in (SIXTY, 10 ** 59):
            self.assertEqual(read(f"-{number}..{number}:{number}"), [(-number, number, number)])

    def test_what_is_no_text(self):
        for value in (
            None, True, False, 0, 1, 1.5, b"1..3:5", b"-", bytearray(b"-"), [], ["1..3:5"], ["-"], ("-",), {},
            {"-": "-"}, {"-"}, [(1, 3, 5)], object(), str, len, iter("-"), HUGE,
        ):
            self.refused(value)

    def test_one_sign_put_in_left_out_or_set_in_anothers_place(self):
        signs = [chr(code) for code in range(32, 127)] + ["\n", "\t", "\r", "\0"]
        for text in ("-", "1..3:5", "-3..0:5 0..12:0", "10..20:100 -9..-8:7", "0..0:0 -1..-1:1"):
            changed = [text[:place] + text[place + 1:] for place in range(len(text))]
            for sign in signs:
                changed.extend(text[:place] + sign + text[place:] for place in range(len(text) + 1))
                changed.extend(text[:place] + sign + text[place + 1:] for place in range(len(text)))
            for one in changed:
                self.hold(one)

    def test_texts_of_few_signs(self):
        chance = random.Random(14)
        for turn in range(5000):
            parts = chance.choices(("0", "1", "2", "..", ":", "-", " ", ".", "1..2:3"), k=chance.randrange(9))
            self.hold("".join(parts))

    def hold(self, text):
        requests = plain.read(text)
        if requests is None:
            self.refused(text)
        else:
            self.assertEqual(read(text), requests)
            self.assertEqual(written(requests), text)


if __name__ == "__main__":
    unittest.main()
