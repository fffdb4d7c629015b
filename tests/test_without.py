"""Tests of beatruns.without: promises 0.2(d), 0.3 and 3.1."""

import itertools
import unittest

from beatruns.beats import is_calm, is_free
from beatruns.without import calm_text, free_text
from plain_counts import plain_doubles, plain_is_calm

# Somewhat beyond 60 nothing is refused either.
LENGTHS = range(67)


class FreeTextTest(unittest.TestCase):
    def test_length_and_letters(self):
        for length in LENGTHS:
            text = free_text(length)
            self.assertIs(type(text), str)
            self.assertEqual(len(text), length)
            self.assertLessEqual(set(text), set("abc"), text)

    def test_nothing_twice_over(self):
        for length in LENGTHS:
            text = free_text(length)
            self.assertEqual(plain_doubles(text), (), text)
            self.assertIs(is_free(text), True, text)

    def test_asked_again(self):
        self.assertEqual([free_text(length) for length in LENGTHS], [free_text(length) for length in LENGTHS])


class CalmTextTest(unittest.TestCase):
    def test_length_and_letters(self):
        for length in LENGTHS:
            text = calm_text(length)
            self.assertIs(type(text), str)
            self.assertEqual(len(text), length)
            self.assertLessEqual(set(text), set("ab"), text)

    def test_nothing_longer_than_twice_its_beat(self):
        for length in LENGTHS:
            text = calm_text(length)
            self.assertIs(plain_is_calm(text), True, text)
            self.assertIs(is_calm(text), True, text)

    def test_asked_again(self):
        self.assertEqual([calm_text(length) for length in LENGTHS], [calm_text(length) for length in LENGTHS])


class TwoLettersTest(unittest.TestCase):
    def test_none_is_free(self):
        for letters in ("ab", "az", "mk"):
            for length in range(4, 11):
                for signs in itertools.product(letters, repeat=length):
                    text = "".join(signs)
                    self.assertIs(is_free(text), False, text)
                    self.assertNotEqual(plain_doubles(text), (), text)

    def test_calm_texts_are_not_free(self):
        for length in range(4, 61):
            self.assertIs(is_free(calm_text(length)), False, length)

    def test_three_are_free(self):
        self.assertIs(is_free("aba"), True)


if __name__ == "__main__":
    unittest.main()
