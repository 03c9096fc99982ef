"""Words, figures and names, of any text (point 4)."""

LETTERS = "abcdefghijklmnopqrstuvwxyz"
FIGURES = ("1", "2", "3", "4", "5", "6", "7", "8", "9")
TAKEN = ("row", "to", "take", "none", "one", "two", "as", "heap")
LONGEST_WORD = 5


def is_word(text):
    if not 1 <= len(text) <= LONGEST_WORD or text in TAKEN:
        return False
    return all([sign in LETTERS for sign in text])


def is_figure(text):
    return text in FIGURES


def is_name(text):
    return is_word(text) or (is_figure(text[-1:]) and is_word(text[:-1]))
