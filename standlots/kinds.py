"""Kinds of values that several modules ask for."""

_LONGEST_WORD = 8


def is_whole(value):
    """Whether any value is an integer; True and False are none."""
    return isinstance(value, int) and not isinstance(value, bool)


def is_word(value):
    """Whether any value is a text of 1 to 8 letters from a to z."""
    if not isinstance(value, str) or not 1 <= len(value) <= _LONGEST_WORD:
        return False
    return value.isascii() and value.isalpha() and value.islower()


def is_ascending(words):
    """Whether each of the words stands behind the one ahead of it, so each once."""
    return all([one < other for one, other in zip(words, words[1:])])
