"""Tests over the whole program: its interface, and promises 0.1 and 0.3."""

import importlib
import inspect
import string
import unittest

from beatruns.beats import doubles, is_calm, is_free, is_text, least_beat
from beatruns.changing import backward, lettered
from beatruns.runs import own_places, run_of, runs
from beatruns.without import calm_text, free_text
from plain_counts import drawn_texts, layered_texts, long_texts

INTERFACE = (
    ("beatruns.beats", "is_text", ["thing"]),
    ("beatruns.beats", "is_free", ["text"]),
    ("beatruns.beats", "is_calm", ["text"]),
    ("beatruns.beats", "least_beat", ["text"]),
    ("beatruns.beats", "doubles", ["text"]),
    ("beatruns.runs", "runs", ["text"]),
    ("beatruns.runs", "run_of", ["text", "place", "half"]),
    ("beatruns.runs", "own_places", ["text", "run"]),
    ("beatruns.without", "free_text", ["length"]),
    ("beatruns.without", "calm_text", ["length"]),
    ("beatruns.changing", "backward", ["text"]),
    ("beatruns.changing", "lettered", ["text", "letters"]),
)


def all_told(text):
    """All that the program tells of a text, one answer behind the other."""
    answers = [is_text(text), is_free(text), is_calm(text), least_beat(text), doubles(text), runs(text)]
    answers.extend(run_of(text, place, half) for place, half in doubles(text))
    answers.extend(own_places(text, run) for run in runs(text))
    answers.extend([backward(text), lettered(text, string.ascii_lowercase[::-1])])
    answers.extend([free_text(len(text)), calm_text(len(text))])
    return answers


def kinds_within(thing):
    if type(thing) is not tuple:
        return {type(thing)}
    return {tuple}.union(*(kinds_within(part) for part in thing))


def some_texts():
    return ["", "a", "ab", *long_texts(), *layered_texts(), *drawn_texts()]


class InterfaceTest(unittest.TestCase):
    def test_names_and_arguments(self):
        for module, name, arguments in INTERFACE:
            found = getattr(importlib.import_module(module), name)
            self.assertEqual(list(inspect.signature(found).parameters), arguments, name)

    def test_errors_is_there(self):
        importlib.import_module("beatruns.errors")


class AnswersTest(unittest.TestCase):
    def test_kinds(self):
        for text in some_texts():
            for answer in all_told(text):
                self.assertLessEqual(kinds_within(answer), {tuple, str, int, bool}, text)
            self.assertLessEqual(kinds_within(runs(text)), {tuple, int}, text)

    def test_asked_again(self):
        texts = some_texts()
        first = [all_told(text) for text in texts]
        again = [all_told(text) for text in reversed(texts)]
        self.assertEqual(first, again[::-1])

    def test_equal_runs_are_as_good(self):
        # A run is equal where its parts are: one that was never told by runs asks the same.
        for text in some_texts():
            for run in runs(text):
                made = tuple(int(str(number)) for number in run)
                self.assertEqual(own_places(text, made), own_places(text, run))
                self.assertEqual(made, run)


if __name__ == "__main__":
    unittest.main()
