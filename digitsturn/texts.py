"""Lines, names and numbers, as all texts of the package have them."""

LETTERS = "abcdefghijklmnopqrstuvwxyz"
LONGEST_NAME = 12
NUMBERS = ("0", "1", "2", "3")
DIRECTIONS = ("up", "down")
WRITER = "writer"
NO_NAMES = (
    "flag", "register", "writer", "reader", "write", "read", "up", "down", "as", "set", "step", "look",
    "wait", "if", "is", "else", "end", "again", "old", "new", "then", "whole", "any", "perhaps",
)


def lines_of(text):
    """Return the lines of a text; the empty text has none."""
    if text == "":
        return []
    return text.split("\n")


def is_name(word):
    """Tell whether a word is a name."""
    if not 1 <= len(word) <= LONGEST_NAME or word in NO_NAMES:
        return False
    return all([letter in LETTERS for letter in word])
