"""Changes of a text: backward, and with other letters."""


def backward(text):
    """Give the letters of a text from the last one to the first one."""
    return text[::-1]


def lettered(text, letters):
    """Give a text with the first one of 26 letters put for a, the second one for b, and so on."""
    return "".join([letters[ord(letter) - ord("a")] for letter in text])
