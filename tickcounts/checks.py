"""What the other files ask of values of any kind."""

LONGEST_NAME = 8


def is_name(value):
    """Whether a value is a string of 1 to 8 letters from a to z."""
    if not isinstance(value, str) or not 1 <= len(value) <= LONGEST_NAME:
        return False
    # islower() and isalpha() would let letters of other alphabets pass.
    return all(["a" <= sign <= "z" for sign in value])
