"""What the other files ask of values of any kind."""

LONGEST_NAME = 8
LETTERS = "abcdefghijklmnopqrstuvwxyz"


def is_name(value):
    """Whether a value is a string of 1 to 8 letters from a to z."""
    # All of a name is stripped off; islower() and isalpha() would let letters of other alphabets pass.
    return isinstance(value, str) and 1 <= len(value) <= LONGEST_NAME and value.strip(LETTERS) == ""


def is_whole(value):
    """Whether a value is a whole number; Booleans are none."""
    return isinstance(value, int) and not isinstance(value, bool)
