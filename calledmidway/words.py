"""Words: the names and numbers in texts and commands."""

from calledmidway.ratios import Ratio, is_name


def name_of(word):
    """Return the NAME that a word is, or None."""
    return word if is_name(word) else None


def integer_of(word):
    """Return the INTEGER that a word tells, or None."""
    digits = word.removeprefix("-")
    if not digits.isascii() or not digits.isdigit():
        return None
    if word == "-0" or (len(digits) > 1 and digits.startswith("0")):
        return None
    return int(word)


def length_of(word):
    """Return the INTEGER of at least 1 that a word tells, or None."""
    found = integer_of(word)
    return None if found is None or found < 1 else found


def ratio_of(word):
    """Return the Ratio of which a word is the str, or None."""
    above, line, below = word.partition("/")
    top = integer_of(above)
    bottom = 1 if line == "" else length_of(below)
    if top is None or bottom is None:
        return None
    found = Ratio(top, bottom)
    # Only in lowest terms, and without a bottom of 1, the word is the str.
    return found if str(found) == word else None


def time_of(word):
    """Return the Ratio of at least 0 of which a word is the str, or None."""
    found = ratio_of(word)
    return None if found is None or found.sign < 0 else found


READERS = {"name": name_of, "integer": integer_of, "length": length_of, "ratio": ratio_of, "time": time_of}


def read_word(kind, word):
    """Return what a word tells that is to be of a kind, or None."""
    read = READERS[kind]
    return read(word)
