"""Tests of beatruns.changing: promises 0.2(e), 0.3 and 4.1."""

import string
import unittest

from beatruns.changing import backward, lettered
from beatruns.runs import runs
from plain_counts import all_texts, free_letters, long_texts, plain_runs, short_texts

ALPHABET = string.ascii_lowercase
LETTERS = (
    ALPHABET,
    ALPHABET[::-1],
    ALPHABET[1:] + "a",
    "z" + ALPHABET[:-1],
    "ba" + ALPHABET[2:],
    "qwertyuiopasdfghjklzxcvbnm",
)


class BackwardTest(unittest.TestCase):
    def test_written_out(self):
        for text, turned in (
            ("", ""), ("a", "a"), ("ab", "ba"), ("aab", "baa"), ("abcd", "dcba"), ("abba", "abba"),
            ("a" * 59 + "b", "b" + "a" * 59),
        ):
            self.assertEqual(backward(text), turned)

    def test_letter_by_letter(self):
        for text in all_texts():
            turned = backward(text)
            self.assertIs(type(turned), str)
            self.assertEqual(len(turned), len(text))
            for place, letter in enumerate(text):
                self.assertEqual(turned[len(text) - 1 - place], letter, text)

    def test_twice_backward(self):
        for text in all_texts():
            self.assertEqual(backward(backward(text)), text)

    def test_runs_are_turned_about(self):
        for text in all_texts():
            size = len(text)
            turned = tuple(sorted((size - end, size - first, beat) for first, end, beat in runs(text)))
            self.assertEqual(runs(backward(text)), turned, text)


class LetteredTest(unittest.TestCase):
    def test_written_out(self):
        for text, letters, other in (
            ("", ALPHABET, ""),
            ("", ALPHABET[::-1], ""),
            ("abc", ALPHABET, "abc"),
            ("abcz", ALPHABET[::-1], "zyxa"),
            ("abcz", ALPHABET[1:] + "a", "bcda"),
            ("hello", "qwertyuiopasdfghjklzxcvbnm", "itssg"),
            ("a" * 60, ALPHABET[::-1], "z" * 60),
        ):
            self.assertEqual(lettered(text, letters), other, (text, letters))

    def test_the_whole_alphabet(self):
        for letters in LETTERS:
            self.assertEqual(lettered(ALPHABET, letters), letters)
            for place, letter in enumerate(ALPHABET):
                self.assertEqual(lettered(letter, letters), letters[place])

    def test_letter_by_letter(self):
        for letters in LETTERS:
            for text in long_texts():
                other = lettered(text, letters)
                self.assertIs(type(other), str)
                self.assertEqual(len(other), len(text))
                for before, after in zip(text, other):
                    self.assertEqual(after, letters[ALPHABET.index(before)], (text, letters))

    def test_runs_are_the_same(self):
        for text in all_texts():
            for letters in LETTERS:
                self.assertEqual(runs(lettered(text, letters)), runs(text), (text, letters))


class BehindItselfTest(unittest.TestCase):
    def test_is_all_one_run(self):
        texts = [*short_texts(), *(free_letters(length) for length in range(31)), ALPHABET, "a" * 30]
        for text in texts:
            if text:
                whole = [run for run in runs(text + text) if run[:2] == (0, 2 * len(text))]
                self.assertEqual(len(whole), 1, text)
                self.assertEqual(len(text) % whole[0][2], 0, text)

    def test_written_out(self):
        self.assertEqual(runs("abc" + "abc"), ((0, 6, 3),))
        self.assertEqual(runs("abab" + "abab"), ((0, 8, 2),))
        self.assertEqual(runs("a" + "a"), ((0, 2, 1),))
        self.assertEqual(runs("aab" + "aab"), plain_runs("aabaab"))


class AskedAgainTest(unittest.TestCase):
    def test_asked_again(self):
        texts = list(long_texts())
        first = [(backward(text), lettered(text, LETTERS[-1])) for text in texts]
        again = [(backward(text), lettered(text, LETTERS[-1])) for text in reversed(texts)]
        self.assertEqual(first, again[::-1])


if __name__ == "__main__":
    unittest.main()
