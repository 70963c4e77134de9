"""What counts as a name, as an integer and as a value of a world."""

LETTERS = "abcdefghijklmnopqrstuvwxyz"
KEPT_WORDS = ("if", "else", "end")
LONGEST_NAME = 4


def is_name(value):
    """Whether any value is a name."""
    if not isinstance(value, str) or not 1 <= len(value) <= LONGEST_NAME:
        return False
    return value not in KEPT_WORDS and all([letter in LETTERS for letter in value])


def is_integer(value):
    """Whether any value is an integer; True and False are none."""
    return isinstance(value, int) and not isinstance(value, bool)


def is_value(value, size):
    """Whether any value is an integer below the size of a world."""
    return is_integer(value) and 0 <= value < size
