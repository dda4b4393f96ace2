import unittest
from itertools import product

from tests import samples
from twighall.errors import NoGround, NoText, NoTree, TwigError
from twighall.reading import read
from twighall.writing import written

FORK = "spots 4 line 0 1 5 line 0 2 0 line 0 3 1000 line 1 2 7"
TEXTS = [FORK, "spots 1", "spots 7", "spots 2 line 0 1 0", "spots 3 line 1 2 10 line 0 1 999"]
SIGNS = "\t\n" + "".join(chr(number) for number in range(ord(" "), ord("~") + 1))


class Reading(unittest.TestCase):
    def refused(self, *texts):
        for text in texts:
            with self.assertRaises(NoText, msg=repr(text[:80])) as taken:
                read(text)
            self.assertNotIsInstance(taken.exception, (NoGround, NoTree))

    def assert_read(self, text, ground):
        answer = read(text)
        self.assertEqual(answer, ground)
        self.assertTrue(samples.expect_ground(answer))
        self.assertTrue(samples.is_made_of_tuples(answer))

    def assert_read_or_refused(self, text):
        expected = samples.expect_read(text)
        if expected is None:
            self.refused(text)
        else:
            self.assert_read(text, expected)

    def test_ordinary(self):
        self.assert_read(FORK, samples.FORK)
        self.assert_read("spots 2 line 0 1 3 line 0 1 3 line 0 1 4", samples.TWINS)
        self.assert_read("spots 3 line 1 2 10 line 0 1 9", (3, ((1, 2, 10), (0, 1, 9))))

    def test_no_line(self):
        for many in range(1, 8):
            self.assert_read("spots " + str(many), (many, ()))

    def test_most_lines(self):
        for many in range(2, 8):
            self.assert_read(f"spots {many}" + " line 0 1 42" * 21, (many, ((0, 1, 42),) * 21))
        self.assert_read(written(samples.whole_ground(7)), samples.whole_ground(7))

    def test_every_length(self):
        for length in range(1001):
            self.assert_read(f"spots 3 line 1 2 {length}", (3, ((1, 2, length),)))

    def test_every_line(self):
        for many, one, other in product(range(10), range(10), range(10)):
            self.assert_read_or_refused(f"spots {many} line {one} {other} 1")

    def test_what_is_written_is_read(self):
        grounds = samples.GROUNDS + [samples.whole_ground(many) for many in range(1, 8)]
        for size in (0, 1, 2, 12, 20, 21):
            grounds += samples.mixed_grounds(size)
        for ground in grounds:
            self.assert_read(written(ground), ground)

    def test_no_word(self):
        self.refused("", " ", "  ", "\n", "\t")

    def test_a_blank_too_many(self):
        for text in TEXTS:
            self.refused(" " + text, text + " ", "  " + text, text + "  ")
            for place, sign in enumerate(text):
                if sign == " ":
                    self.refused(text[:place] + " " + text[place:], text[:place] + "   " + text[place:])

    def test_a_blank_too_few(self):
        for text in TEXTS:
            for place, sign in enumerate(text):
                if sign == " ":
                    self.refused(text[:place] + text[place + 1:])

    def test_another_sign_for_a_blank(self):
        for text in TEXTS:
            for place, sign in enumerate(text):
                if sign == " ":
                    for other in ("\t", "\n", "\r", "\r\n", ",", "_", "-"):
                        self.refused(text[:place] + other + text[place + 1:])

    def test_something_ahead_or_behind(self):
        for text in TEXTS:
            for more in ("\n", "\t", "\r", "\r\n", " \n", "\n ", ".", ";", " ."):
                self.refused(text + more, more + text)

    def test_a_word_too_few(self):
        for text in TEXTS:
            words = text.split(" ")
            for place in range(len(words)):
                self.refused(" ".join(words[:place] + words[place + 1:]))

    def test_a_word_twice(self):
        for text in TEXTS:
            words = text.split(" ")
            for place in range(len(words)):
                self.refused(" ".join(words[:place + 1] + words[place:]))

    def test_a_word_too_many(self):
        for text in TEXTS:
            words = text.split(" ")
            for place, more in product(range(len(words) + 1), ("spots", "line", "1", "0")):
                self.refused(" ".join(words[:place] + [more] + words[place:]))

    def test_several_words_too_few_or_too_many(self):
        for more in ("line", "line 0", "line 0 1", "line 0 1 1 1", "0", "0 1", "0 1 1", "spots 2", "line line line line",
                     "0 1 1 line", "1 1 1 1", "spots 0 1 1"):
            self.refused("spots 2 " + more, "spots 2 line 0 1 1 " + more, "spots 2 " + more + " line 0 1 1")
        self.refused("spots", "2", "line 0 1 1", "line 0 1 1 spots 2", "spots 2 spots 2", "2 spots")

    def test_words_in_another_place(self):
        for text in TEXTS:
            words = text.split(" ")
            for one, other in product(range(len(words)), repeat=2):
                changed = list(words)
                changed[one], changed[other] = words[other], words[one]
                self.assert_read_or_refused(" ".join(changed))

    def test_misspelt_words(self):
        for spots in ("spot", "Spots", "SPOTS", "spotS", "spotss", "sports", "pots", "line", "", "1"):
            self.refused(spots + " 2", spots + " 2 line 0 1 1")
        for line in ("lines", "Line", "LINE", "linE", "lin", "ine", "lime", "spots", "", "1"):
            self.refused(f"spots 2 {line} 0 1 1", f"spots 2 {line} 0 1 1 line 0 1 1", f"spots 2 line 0 1 1 {line} 0 1 1")

    def test_numbers_that_are_not_written_so(self):
        for odd in ("00", "01", "02", "001", "0001", "+0", "+1", "-0", "-1", "+", "-", "1_0", "_1", "1_", "1_000", "_",
                    "", "x", "one", "1.0", "1.", ".1", "1e1", "0x1", "0b1", "1,0", "1a", "a1", "(1)", "'1'", "~", "1\t",
                    "\t1", "1\n", "\n1", "None", "True", "1 ", " 1"):
            self.refused("spots " + odd, f"spots {odd} line 0 1 1", f"spots 3 line {odd} 2 1",
                         f"spots 3 line 0 {odd} 1", f"spots 3 line 0 1 {odd}", f"spots 3 line 0 1 {odd} line 0 1 1")

    def test_a_0_ahead(self):
        for ahead in ("0", "00", "0" * 5000):
            self.refused(f"spots {ahead}2 line 0 1 1", f"spots 2 line {ahead}0 1 1", f"spots 2 line 0 {ahead}1 1",
                         f"spots 2 line 0 1 {ahead}0", f"spots 2 line 0 1 {ahead}7", f"spots 2 line 0 1 {ahead}1000")

    def test_very_many_figures(self):
        for size in (5, 6, 20, 4299, 4300, 4301, 5000, 20000):
            for odd in ("1" * size, "9" * size, "1" + "0" * (size - 1), "-" + "1" * size):
                self.refused(f"spots {odd}", f"spots {odd} line 0 1 1", f"spots 2 line {odd} 1 1",
                             f"spots 2 line 0 {odd} 1", f"spots 2 line 0 1 {odd}")

    def test_how_many_spots(self):
        self.refused("spots 0", "spots 8", "spots 9", "spots 10", "spots 11", "spots 70", "spots 1000")
        self.refused("spots 8 line 0 1 1", "spots 0 line 0 1 1")

    def test_too_many_lines(self):
        for size in (22, 23, 100):
            self.refused("spots 2" + " line 0 1 1" * size)
        self.refused(written(samples.whole_ground(7)) + " line 5 6 1")

    def test_spots_that_the_ground_has_not(self):
        for many in range(1, 8):
            self.refused(f"spots {many} line 0 {many} 1", f"spots {many} line {many - 1} {many} 1",
                         f"spots {many} line {many} {many + 1} 1", f"spots {many} line 0 10 1")

    def test_one_not_less_than_other(self):
        self.refused("spots 3 line 1 0 1", "spots 3 line 2 0 1", "spots 3 line 2 1 1", "spots 3 line 1 1 1",
                     "spots 3 line 0 0 1", "spots 1 line 0 0 1")

    def test_too_great_lengths(self):
        self.refused(*[f"spots 2 line 0 1 {length}" for length in (1001, 1002, 1010, 2000, 9999, 10000)])

    def test_one_wrong_line_among_right_ones(self):
        for place in range(3):
            lines = [" line 0 1 1", " line 0 2 1", " line 1 2 1"]
            lines[place] = " line 1 1 1"
            self.refused("spots 3" + "".join(lines))

    def test_every_sign_in_every_place(self):
        for text in TEXTS[1:]:
            for place in range(len(text) + 1):
                self.assert_read_or_refused(text[:place] + text[place + 1:])
                for sign in SIGNS:
                    self.assert_read_or_refused(text[:place] + sign + text[place:])
                    self.assert_read_or_refused(text[:place] + sign + text[place + 1:])

    def test_all_short_texts_of_some_words(self):
        for size in range(1, 7):
            for words in product(("spots", "line", "0", "1", "2"), repeat=size):
                self.assert_read_or_refused(" ".join(words))

    def test_taken_as_twig_error_and_as_value_error(self):
        for taken in (TwigError, ValueError):
            for text in ("", "spots 8", "spots 2 lime 0 1 1", "spots x", "spots 2 line 0 1 " + "9" * 5000):
                with self.assertRaises(taken):
                    read(text)


if __name__ == "__main__":
    unittest.main()
