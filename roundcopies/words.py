"""Words of lines: decimal numbers, and words of small letters."""

DIGITS = "0123456789"
SMALL_LETTERS = "abcdefghijklmnopqrstuvwxyz"
MOST_FIGURES = 9
MOST_LETTERS = 20


def is_number_word(word):
    """Whether a string is a decimal number of few figures, without needless zeros."""
    if not 1 <= len(word) <= MOST_FIGURES or not all([sign in DIGITS for sign in word]):
        return False
    return word == "0" or word[0] != "0"


def is_letters(word):
    """Whether a string is a word of few small letters."""
    return 1 <= len(word) <= MOST_LETTERS and all([sign in SMALL_LETTERS for sign in word])


def joined_words(things):
    """Things as words, with one blank between two."""
    return " ".join([str(thing) for thing in things])
