"""Integers as texts, however many digits they have.

Python's own int and str refuse integers of several thousand digits, so these are read and written block by block.
"""

DIGITS = 64
SPAN = 10 ** 64


def is_integer_text(value):
    """Whether the text is one of an integer, as str writes it."""
    digits = value[1:] if value.startswith("-") else value
    if len(digits) == 0 or not all(["0" <= digit <= "9" for digit in digits]):
        return False
    return value == "0" or digits[0] != "0"


def integer_of(text):
    """The integer with this text."""
    digits = text.lstrip("-")
    first = len(digits) % DIGITS
    number = int(digits[:first]) if first > 0 else 0
    for at in range(first, len(digits), DIGITS):
        number = number * SPAN + int(digits[at:at + DIGITS])
    return -number if text.startswith("-") else number


def text_of(number):
    """The text of an integer."""
    blocks, left = [], abs(number)
    while left >= SPAN:
        left, low = divmod(left, SPAN)
        blocks.append(str(low).zfill(DIGITS))
    blocks.append(str(left))
    sign = "-" if number < 0 else ""
    return sign + "".join(list(reversed(blocks)))
