"""Plain counts and texts that the tests share.

The counts follow the document's words letter by letter, and share nothing with the program.
"""

import itertools
import string


def plain_is_beat(letters, beat):
    return all(letters[at] == letters[at + beat] for at in range(len(letters)) if at + beat < len(letters))


def plain_least_beat(text):
    return min(beat for beat in range(1, len(text) + 1) if plain_is_beat(text, beat))


def plain_doubles(text):
    pairs = []
    for place in range(len(text)):
        for half in range(1, len(text) + 1):
            if place + 2 * half > len(text):
                continue
            if all(text[place + at] == text[place + half + at] for at in range(half)):
                pairs.append((place, half))
    return tuple(sorted(pairs))


def plain_is_calm(text):
    for first in range(len(text)):
        for end in range(first + 3, len(text) + 1):
            stretch = text[first:end]
            for beat in range(1, len(stretch) + 1):
                if len(stretch) > 2 * beat and plain_is_beat(stretch, beat):
                    return False
    return True


def grown(first, put, length):
    """The first letters of what comes when each letter is replaced by its put text, over and over."""
    text = first
    while len(text) < length:
        text = "".join(put[letter] for letter in text)
    return text[:length]


def calm_letters(length):
    return grown("a", {"a": "ab", "b": "ba"}, length)


def free_letters(length):
    return grown("a", {"a": "abc", "b": "ac", "c": "b"}, length)


def golden_letters(length):
    return grown("a", {"a": "ab", "b": "a"}, length)


def short_texts():
    for letters, most in (("ab", 10), ("abc", 6), ("azmk", 4)):
        for length in range(most + 1):
            for signs in itertools.product(letters, repeat=length):
                yield "".join(signs)


def long_texts():
    for length in (11, 29, 30, 31, 32, 59, 60, 61):
        yield "a" * length
        yield "z" * (length - 1) + "a"
        yield "a" + "z" * (length - 1)
        yield ("abcde" * length)[:length]
        yield (string.ascii_lowercase * 3)[:length]
        yield calm_letters(length)
        yield free_letters(length)
        yield golden_letters(length)
    yield free_letters(30) * 2
    yield calm_letters(29) + "c" + calm_letters(29) + "c"
    yield free_letters(20) * 3


def all_texts():
    yield from short_texts()
    yield from long_texts()
    yield from layered_texts()
    yield from drawn_texts()


def plain_runs(text):
    triples = []
    for first in range(len(text)):
        for end in range(first + 2, len(text) + 1):
            beat = plain_least_beat(text[first:end])
            if end - first < 2 * beat:
                continue
            if first > 0 and plain_is_beat(text[first - 1:end], beat):
                continue
            if end < len(text) and plain_is_beat(text[first:end + 1], beat):
                continue
            triples.append((first, end, beat))
    return tuple(sorted(triples))


def plain_own_places(text, run):
    first, end, beat = run
    order = string.ascii_lowercase
    if end < len(text) and order.index(text[end]) > order.index(text[end - beat]):
        order = order[::-1]
    ranks = [order.index(letter) for letter in text]
    places = []
    for place in range(first + 1, end):
        if place + beat > end:
            continue
        block = ranks[place:place + beat]
        if all(block < block[cut:] + block[:cut] for cut in range(1, beat)):
            places.append(place)
    return tuple(places)


def layered_texts():
    """Texts in which runs lie over one another, begin at one place, or end at one place."""
    yield from ("aabaab", "baabaa", "aabaabaab", "abaababaabaab", "ababcababc", "cbabacbaba", "aabbaabb", "abaabaaba")
    yield from ("aabaabcaabaabc", "cbaabaacbaabaa", "abababcabababc", "aaabaaabaaab", "mississippi", "banana")
    yield "zzyzzyzz"
    yield ("aab" * 4 + "c") * 3
    yield ("zzy" * 4 + "a") * 3
    yield ("ab" * 3 + "ba" * 3) * 4


def drawn_texts():
    """Texts of up to 60 letters without any plan, the same ones each time."""
    state = 1
    for size, length in itertools.product((2, 3, 4), (13, 20, 30, 45, 60)):
        letters = []
        for at in range(length):
            state = (state * 1103515245 + 12345) % 2 ** 31
            letters.append("azmk"[(state >> 16) % size])
        yield "".join(letters)
