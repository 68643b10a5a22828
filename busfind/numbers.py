"""Widths, the numbers of things, and the beginnings of numbers."""

from busfind.errors import BadNumber, BadWidth

LEAST_WIDTH = 1
GREATEST_WIDTH = 12

# No message shows what was handed in: Python refuses to write very great
# numbers, and its own error would stand in the place of the right one.


def require_width(width):
    """Refuse what is no width."""
    # True would pass as 1.
    if isinstance(width, bool) or not LEAST_WIDTH <= width <= GREATEST_WIDTH:
        raise BadWidth(f"a width is a number from {LEAST_WIDTH} to {GREATEST_WIDTH}")


def require_number(width, number):
    """Refuse what is no number of this width."""
    if not is_number(width, number):
        raise BadNumber("a number is a text of as many signs 0 and 1 as the width says")


def is_number(width, number):
    """Tell whether this is a text of so many signs 0 and 1."""
    if not isinstance(number, str) or len(number) != width:
        return False
    return all(sign in "01" for sign in number)


def is_beginning(width, text):
    """Tell whether this is a text of fewer signs 0 and 1 than a number has."""
    return isinstance(text, str) and len(text) < width and is_number(len(text), text)


def heard(numbers, beginning):
    """Tell whether some of the numbers have a 0 behind this beginning, and whether some have a 1."""
    zero = any(number.startswith(beginning + "0") for number in numbers)
    one = any(number.startswith(beginning + "1") for number in numbers)
    return (zero, one)


def met(width, numbers):
    """Tell the beginnings with which some of the numbers begin, and the empty one, rising."""
    require_width(width)
    for number in numbers:
        require_number(width, number)
    # The empty text brings the empty beginning in, also where there are no numbers.
    texts = [*numbers, ""]
    return sorted({text[:length] for text in texts for length in range(width)})
