"""Texts, their beats, and what stands in them twice over."""

MOST_LETTERS = 30


def is_text(thing):
    """Tell of any thing whether it is a text: at most 30 letters a to z."""
    if not isinstance(thing, str):
        return False
    return len(thing) <= MOST_LETTERS and all(["a" <= sign <= "z" for sign in thing])


def has_beat(text, beat):
    """Tell whether each letter is the one that stands beat places further on."""
    return text[:len(text) - beat] == text[beat:]


def least_beat(text):
    """Give the least beat of a text that is not empty."""
    for beat in range(1, len(text)):
        if has_beat(text, beat):
            return beat
    # Its own length is always a beat: no letter stands so far on.
    return len(text)


def is_double(text, place, half):
    """Tell whether the half letters from place on stand once more, right behind."""
    middle = place + half
    return text[place:middle] == text[middle:middle + half]


def doubles(text):
    """Give all pairs (place, half) of what stands twice over, as a rising tuple."""
    found = []
    for place in range(len(text)):
        # Beyond this half, the second one would reach past the text's end.
        most_half = (len(text) - place) // 2
        for half in range(1, most_half + 1):
            if is_double(text, place, half):
                found.append((place, half))
    return tuple(found)


def is_free(text):
    """Tell whether nothing stands twice over."""
    return len(doubles(text)) == 0


def goes_further(text, place, half):
    """Tell whether the letter behind a double makes it a longer stretch with the same beat."""
    behind = place + 2 * half
    return behind < len(text) and text[behind] == text[behind - half]


def is_calm(text):
    """Tell whether no stretch has more than twice as many letters as a beat of it."""
    # Such a stretch begins with a double that its next letter carries on,
    # so that it is enough to look at one letter behind each double.
    for place, half in doubles(text):
        if goes_further(text, place, half):
            return False
    return True
