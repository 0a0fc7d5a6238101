"""What kinds of plain values there are: integers, counts, texts, letters."""

SMALL_LETTERS = "abcdefghijklmnopqrstuvwxyz"
MOST_LETTERS = 3


def is_integer(value):
    """Whether any value is an int that is not a bool."""
    return isinstance(value, int) and not isinstance(value, bool)


def is_count(value):
    """Whether any value is an integer that is at least 0."""
    return is_integer(value) and value >= 0


def is_text(value):
    """Whether any value is a string of small letters, perhaps empty."""
    return isinstance(value, str) and all([letter in SMALL_LETTERS for letter in value])


def is_over(value, letters):
    """Whether any value is a text that has none but these letters."""
    return isinstance(value, str) and all([letter in letters for letter in value])


def are_letters(value):
    """Whether any value is a string of one to three unlike small letters, rising."""
    if not is_text(value) or not 1 <= len(value) <= MOST_LETTERS:
        return False
    return list(value) == sorted(set(value))
