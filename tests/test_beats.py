"""Tests of beatruns.beats: promises 0.3, 0.4, 0.5, 1.1 and 1.2."""

import string
import unittest

from beatruns.beats import doubles, is_calm, is_free, is_text, least_beat
from plain_counts import (
    all_texts, calm_letters, free_letters, long_texts, plain_doubles, plain_is_calm, plain_least_beat,
)


def nested(core, depth, kinds):
    thing = core
    for level in range(depth):
        thing = kinds[level % len(kinds)]([thing])
    return thing


def other_things():
    """Things of the kinds that 1.1 names, none of which is a text."""
    yield from (0, 1, -1, 30, 97, 10 ** 40, True, False, None)
    yield from ([], (), [None], (None,), [""], ("",), ["a"], ("a",), ["a", "b"], ("a", "b"), [True, 0], (1, [2]))
    yield list("abc")
    yield tuple("abc")
    for core in ("", "abc", 7, True, None, [], ()):
        for depth in (1, 2, 29, 30, 31, 32):
            for kinds in ((list,), (tuple,), (list, tuple)):
                yield nested(core, depth, kinds)


WRONG_SIGNS = (
    "A", "M", "Z", "0", "9", " ", "\n", "\t", "\0", "`", "{", "_", "-", "'",
    "\u00e4", "\u00df", "\u00aa", "\u0131", "\u03b1", "\u0430", "\u05d0", "\u3042", "\uff41", "\u0301", "\U0001d41a",
)


class IsTextTest(unittest.TestCase):
    def test_lengths(self):
        for length in range(31):
            for text in ("a" * length, "z" * length, free_letters(length), (string.ascii_lowercase * 2)[:length]):
                self.assertIs(is_text(text), True, text)
        for length in (31, 32, 33, 59, 60, 61, 1000):
            for text in ("a" * length, free_letters(length)):
                self.assertIs(is_text(text), False, text)

    def test_each_letter(self):
        for letter in string.ascii_lowercase:
            self.assertIs(is_text(letter), True, letter)

    def test_signs_that_are_no_letters(self):
        for sign in WRONG_SIGNS:
            for text in (sign, sign + "abcd", "ab" + sign + "cd", "abcd" + sign, sign * 30):
                self.assertIs(is_text(text), False, repr(text))
            for place in (0, 15, 29):
                text = "a" * place + sign + "a" * (29 - place)
                self.assertIs(is_text(text), False, repr(text))

    def test_only_ascii_letters_among_single_signs(self):
        for number in range(0x3000):
            self.assertIs(is_text(chr(number)), chr(number) in string.ascii_lowercase, number)

    def test_other_things(self):
        for thing in other_things():
            self.assertIs(is_text(thing), False, repr(thing))

    def test_handed_in_is_not_changed(self):
        for thing in other_things():
            before = repr(thing)
            first = is_text(thing)
            self.assertEqual(repr(thing), before)
            self.assertIs(is_text(thing), first)
            self.assertEqual(repr(thing), before)


class LeastBeatTest(unittest.TestCase):
    def test_written_out(self):
        for text, beat in (
            ("a", 1), ("z", 1), ("aa", 1), ("aaa", 1), ("a" * 30, 1), ("a" * 60, 1),
            ("ab", 2), ("abc", 3), ("aab", 3), ("abb", 3), ("aaaab", 5), (string.ascii_lowercase, 26),
            ("a" * 29 + "b", 30), ("a" * 59 + "b", 60),
            ("aba", 2), ("ababa", 2), ("abca", 3), ("abcab", 3), ("abcabca", 3), ("aabaa", 3), ("abaab", 3),
            ("abaabab", 5), ("abcdabc", 4), ("a" + "b" * 28 + "a", 29),
            ("abab", 2), ("abcabc", 3), ("aabaab", 3), ("abababab", 2), ("abaabaab", 3),
        ):
            self.assertEqual(least_beat(text), beat, text)

    def test_against_plain_count(self):
        for text in all_texts():
            if text:
                self.assertEqual(least_beat(text), plain_least_beat(text), text)

    def test_is_a_whole_number(self):
        for text in ("a", "aa", "ab", "abcab"):
            self.assertIs(type(least_beat(text)), int)

    def test_every_beat_that_leaves_a_rest(self):
        for beat in range(1, 27):
            for length in range(beat, 61):
                text = (string.ascii_lowercase[:beat] * 60)[:length]
                self.assertEqual(least_beat(text), beat, text)

    def test_the_empty_text_is_not_refused(self):
        least_beat("")


class DoublesTest(unittest.TestCase):
    def test_written_out(self):
        for text, pairs in (
            ("", ()), ("a", ()), ("ab", ()), ("aba", ()), ("abcacb", ()),
            ("aa", ((0, 1),)),
            ("aaa", ((0, 1), (1, 1))),
            ("aaaa", ((0, 1), (0, 2), (1, 1), (2, 1))),
            ("abab", ((0, 2),)),
            ("ababa", ((0, 2), (1, 2))),
            ("aabaab", ((0, 1), (0, 3), (3, 1))),
            ("abaabab", ((0, 3), (2, 1), (3, 2))),
            ("cabcab", ((0, 3),)),
            ("xabab", ((1, 2),)),
        ):
            self.assertEqual(doubles(text), pairs, text)

    def test_against_plain_count(self):
        for text in all_texts():
            self.assertEqual(doubles(text), plain_doubles(text), text)

    def test_kinds(self):
        for text in ("", "a", "aa", "aabaab", "a" * 60):
            answer = doubles(text)
            self.assertIs(type(answer), tuple)
            for pair in answer:
                self.assertIs(type(pair), tuple)
                self.assertEqual([type(number) for number in pair], [int, int])

    def test_rising_and_each_once(self):
        for text in long_texts():
            answer = doubles(text)
            for earlier, later in zip(answer, answer[1:]):
                self.assertLess(earlier, later, text)

    def test_halves_up_to_half_of_the_text(self):
        for half in range(1, 27):
            letters = string.ascii_lowercase[:half]
            self.assertEqual(doubles(letters * 2), ((0, half),))
        self.assertIn((0, 30), doubles(free_letters(30) * 2))


class IsFreeTest(unittest.TestCase):
    def test_written_out(self):
        for text in ("", "a", "ab", "aba", "abc", "abcacb", "abacaba", string.ascii_lowercase, free_letters(60)):
            self.assertIs(is_free(text), True, text)
        for text in ("aa", "aab", "baa", "abab", "cabab", "ababc", "abcabc", "abba", "a" * 60):
            self.assertIs(is_free(text), False, text)

    def test_against_plain_count(self):
        for text in all_texts():
            self.assertIs(is_free(text), plain_doubles(text) == (), text)

    def test_one_double_anywhere(self):
        # A letter put twice into letters that are all unlike is their one double.
        for place in range(26):
            letters = string.ascii_lowercase
            self.assertIs(is_free(letters[:place] + letters[place] + letters[place:]), False, place)


class IsCalmTest(unittest.TestCase):
    def test_nothing_twice_over(self):
        for text in ("", "a", "ab", "aba", "abcacb", string.ascii_lowercase, free_letters(60)):
            self.assertIs(is_calm(text), True, text)

    def test_no_further_than_twice(self):
        for text in ("aa", "aab", "aabb", "abab", "ababb", "aabaab", "abcabc", "abcabcb", "abba", calm_letters(60),
                     free_letters(30) + "d" + free_letters(29) + "d"):
            self.assertIs(is_calm(text), True, text)

    def test_further_than_twice(self):
        for text in ("aaa", "aaab", "baaa", "baaab", "a" * 60, "ababa", "cababac", "ababab", "abcabca", "babcabca",
                     "aabaaba", "abaabaa", free_letters(29) * 2 + "a", free_letters(20) * 3):
            self.assertIs(is_calm(text), False, text)

    def test_every_beat_at_its_edge(self):
        for beat in range(1, 27):
            letters = string.ascii_lowercase[:beat]
            self.assertIs(is_calm(letters * 2), True, letters)
            self.assertIs(is_calm(letters * 2 + "a"), False, letters)

    def test_against_plain_count(self):
        for text in all_texts():
            self.assertIs(is_calm(text), plain_is_calm(text), text)


class AskedAgainTest(unittest.TestCase):
    def test_asked_again(self):
        texts = list(long_texts())
        for ask in (is_text, least_beat, doubles, is_free, is_calm):
            first = [ask(text) for text in texts]
            again = [ask(text) for text in reversed(texts)]
            self.assertEqual(first, again[::-1], ask)


if __name__ == "__main__":
    unittest.main()
