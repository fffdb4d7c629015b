"""Tests of beatruns.runs: promises 0.1, 0.2(a), (b) and (c), 0.3, 0.6, 2.1 and 2.2."""

import string
import unittest
from fractions import Fraction

from beatruns.beats import doubles
from beatruns.runs import own_places, run_of, runs
from plain_counts import (
    all_texts, drawn_texts, free_letters, golden_letters, layered_texts, long_texts, plain_doubles, plain_own_places,
    plain_runs,
)


class RunsTest(unittest.TestCase):
    def test_written_out(self):
        for text, triples in (
            ("aa", ((0, 2, 1),)),
            ("ab", ()), ("aba", ()), ("abcab", ()), ("abcacb", ()), (string.ascii_lowercase, ()),
            ("abab", ((0, 4, 2),)),
            ("ababa", ((0, 5, 2),)),
            ("xababay", ((1, 6, 2),)),
            ("aabb", ((0, 2, 1), (2, 4, 1))),
            ("banana", ((1, 6, 2),)),
            ("mississippi", ((1, 8, 3), (2, 4, 1), (5, 7, 1), (8, 10, 1))),
        ):
            self.assertEqual(runs(text), triples, text)

    def test_empty_and_one_letter(self):
        self.assertEqual(runs(""), ())
        for letter in string.ascii_lowercase:
            self.assertEqual(runs(letter), ())

    def test_one_letter_again_and_again(self):
        for letter in "amz":
            for length in range(2, 62):
                self.assertEqual(runs(letter * length), ((0, length, 1),))

    def test_every_beat_at_its_edge(self):
        for beat in range(1, 27):
            letters = string.ascii_lowercase[:beat]
            self.assertEqual(runs((letters * 2)[:-1]), ())
            for length in range(2 * beat, 61):
                self.assertEqual(runs((letters * 60)[:length]), ((0, length, beat),))
        self.assertIn((0, 60, 30), runs(free_letters(30) * 2))

    def test_over_one_another(self):
        self.assertEqual(runs("abaababaabaab"), (
            (0, 6, 3), (0, 11, 5), (2, 4, 1), (3, 8, 2), (5, 13, 3), (7, 9, 1), (10, 12, 1),
        ))

    def test_that_begin_at_one_place(self):
        self.assertEqual(runs("aabaab"), ((0, 2, 1), (0, 6, 3), (3, 5, 1)))
        self.assertEqual(runs("ababcababc"), ((0, 4, 2), (0, 10, 5), (5, 9, 2)))

    def test_that_end_at_one_place(self):
        self.assertEqual(runs("baabaa"), ((0, 6, 3), (1, 3, 1), (4, 6, 1)))
        self.assertEqual(runs("cbabacbaba"), ((0, 10, 5), (1, 5, 2), (6, 10, 2)))

    def test_against_plain_count(self):
        for text in all_texts():
            self.assertEqual(runs(text), plain_runs(text), text)

    def test_rising_and_each_once(self):
        for text in all_texts():
            answer = runs(text)
            for earlier, later in zip(answer, answer[1:]):
                self.assertLess(earlier, later, text)

    def test_kinds(self):
        for text in ("", "a", "aa", "aabaab", "a" * 60, golden_letters(60)):
            answer = runs(text)
            self.assertIs(type(answer), tuple)
            for run in answer:
                self.assertIs(type(run), tuple)
                self.assertEqual([type(number) for number in run], [int, int, int])


class RunOfTest(unittest.TestCase):
    def test_written_out(self):
        for text, place, half, run in (
            ("aa", 0, 1, (0, 2, 1)),
            ("xababay", 2, 2, (1, 6, 2)),
            ("aabaab", 0, 1, (0, 2, 1)),
            ("aabaab", 0, 3, (0, 6, 3)),
            ("aabaab", 3, 1, (3, 5, 1)),
            ("abaababaabaab", 0, 5, (0, 11, 5)),
            ("abaababaabaab", 0, 3, (0, 6, 3)),
            ("abaababaabaab", 7, 3, (5, 13, 3)),
        ):
            self.assertEqual(run_of(text, place, half), run, (text, place, half))

    def test_half_of_several_beats(self):
        for text, place, half, run in (
            ("baaaab", 1, 2, (1, 5, 1)),
            ("a" * 60, 0, 30, (0, 60, 1)),
            ("a" * 60, 7, 20, (0, 60, 1)),
            ("xababababay", 1, 4, (1, 10, 2)),
            ("xababababay", 2, 4, (1, 10, 2)),
            ("abc" * 20, 5, 27, (0, 60, 3)),
            ("abc" * 20, 0, 30, (0, 60, 3)),
        ):
            self.assertEqual(run_of(text, place, half), run, (text, place, half))

    def test_the_one_run_of_every_double(self):
        for text in all_texts():
            all_runs = plain_runs(text)
            for place, half in plain_doubles(text):
                around = [
                    run for run in all_runs
                    if run[0] <= place and place + 2 * half <= run[1] and half % run[2] == 0
                ]
                self.assertEqual(len(around), 1, (text, place, half))
                self.assertEqual(run_of(text, place, half), around[0], (text, place, half))

    def test_every_run_is_told_for_a_double(self):
        for text in all_texts():
            told = {run_of(text, place, half) for place, half in doubles(text)}
            self.assertEqual(told, set(runs(text)), text)

    def test_kinds(self):
        for text, place, half in (("aa", 0, 1), ("xababay", 1, 2), ("a" * 60, 3, 20)):
            run = run_of(text, place, half)
            self.assertIs(type(run), tuple)
            self.assertEqual([type(number) for number in run], [int, int, int])


class HowManyTest(unittest.TestCase):
    def test_fewer_than_letters(self):
        for text in all_texts():
            if text:
                self.assertLess(len(runs(text)), len(text), text)

    def test_all_that_they_come_again(self):
        for text in all_texts():
            again = sum(Fraction(end - first, beat) for first, end, beat in runs(text))
            self.assertLessEqual(again, 3 * len(text), text)


class OwnPlacesTest(unittest.TestCase):
    def test_run_ends_at_the_end_of_the_text(self):
        for text, run, places in (
            ("aa", (0, 2, 1), (1,)),
            ("aaaa", (0, 4, 1), (1, 2, 3)),
            ("baa", (1, 3, 1), (2,)),
            ("abab", (0, 4, 2), (2,)),
            ("baba", (0, 4, 2), (1,)),
            ("ababa", (0, 5, 2), (2,)),
            ("cababab", (1, 7, 2), (3, 5)),
            ("bacbac", (0, 6, 3), (1,)),
            ("cabcab", (0, 6, 3), (1,)),
            ("abcabcab", (0, 8, 3), (3,)),
        ):
            self.assertEqual(own_places(text, run), places, (text, run))

    def test_next_letter_comes_ahead(self):
        for text, run, places in (
            ("bba", (0, 2, 1), (1,)),
            ("bcbca", (0, 4, 2), (2,)),
            ("cbcba", (0, 4, 2), (1,)),
            ("ababaa", (0, 5, 2), (2,)),
            ("bacbacbabb", (0, 8, 3), (1, 4)),
        ):
            self.assertLess(text[run[1]], text[run[1] - run[2]])
            self.assertEqual(own_places(text, run), places, (text, run))

    def test_next_letter_comes_behind(self):
        for text, run, places in (
            ("aab", (0, 2, 1), (1,)),
            ("ababc", (0, 4, 2), (1,)),
            ("babac", (0, 4, 2), (2,)),
            ("babab" + "b", (0, 5, 2), (2,)),
            ("bacbacbacc", (0, 9, 3), (2, 5)),
            ("abcabcabd", (0, 8, 3), (2, 5)),
        ):
            self.assertGreater(text[run[1]], text[run[1] - run[2]])
            self.assertEqual(own_places(text, run), places, (text, run))

    def test_against_plain_count(self):
        for text in all_texts():
            for run in plain_runs(text):
                self.assertEqual(own_places(text, run), plain_own_places(text, run), (text, run))

    def test_own_and_behind_the_first_place(self):
        for text in all_texts():
            taken = set()
            for run in runs(text):
                places = own_places(text, run)
                self.assertNotEqual(places, (), (text, run))
                self.assertEqual(list(places), sorted(set(places)), (text, run))
                self.assertNotIn(0, places, (text, run))
                self.assertLess(places[-1], len(text), (text, run))
                self.assertEqual(taken & set(places), set(), (text, run))
                taken.update(places)

    def test_kinds(self):
        for text in ("aa", "aabaab", "abababc", "a" * 30, golden_letters(30)):
            for run in runs(text):
                places = own_places(text, run)
                self.assertIs(type(places), tuple)
                for place in places:
                    self.assertIs(type(place), int)


class AskedAgainTest(unittest.TestCase):
    def test_asked_again(self):
        texts = [*long_texts(), *layered_texts(), *drawn_texts()]
        first = [self.all_told(text) for text in texts]
        again = [self.all_told(text) for text in reversed(texts)]
        self.assertEqual(first, again[::-1])

    def all_told(self, text):
        all_runs = runs(text)
        return (
            all_runs,
            tuple(own_places(text, run) for run in all_runs),
            tuple(run_of(text, place, half) for place, half in doubles(text)),
        )


if __name__ == "__main__":
    unittest.main()
