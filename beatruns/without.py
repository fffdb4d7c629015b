"""Texts in which nothing stands twice over, or nothing goes further than twice."""


def grown(steps, length):
    """Give the first letters of what an a grows to when each letter is replaced by its step, over and over."""
    text = "a"
    while len(text) < length:
        text = "".join([steps[letter] for letter in text])
    return text[:length]


def free_text(length):
    """Give a text of so many letters a, b and c in which nothing stands twice over."""
    # Between each two a of calm_text stand none, one or two b: c, b and a say how many.
    # These steps grow the same letters, in which nothing stands twice over, as the other ones are calm.
    return grown({"a": "abc", "b": "ac", "c": "b"}, length)


def calm_text(length):
    """Give a text of so many letters a and b in which nothing is longer than twice its beat."""
    # Thue's letters: these steps make no text that is calm one that is not.
    return grown({"a": "ab", "b": "ba"}, length)
