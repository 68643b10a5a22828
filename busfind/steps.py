"""The steps of a day, as tuples: a word, and perhaps what it is done to."""

from busfind.errors import BadStep
from busfind.numbers import GREATEST_WIDTH, LEAST_WIDTH, is_number
from busfind.wire import KINDS

MOST_STEPS = 200
WORDS_ALONE = ("step", "round", "turn", "refresh")
WORDS_OF_THINGS = ("hang", "off", "alarm", "calm")


def require_steps(steps):
    """Refuse what is no list of steps of a day."""
    for number, step in enumerate(steps):
        if number == MOST_STEPS or not is_step(step):
            raise BadStep(number)


def is_step(step):
    """Tell whether this is a step of a day on a wire of some width."""
    if len(step) == 1:
        return step[0] in WORDS_ALONE
    if len(step) != 2:
        return False
    word, what = step
    if word == "walk":
        return what in KINDS
    return word in WORDS_OF_THINGS and is_some_number(what)


def is_some_number(number):
    """Tell whether this is a thing's number for some width."""
    # Which width the day has is not asked: another length is a number still,
    # that the wire refuses when the step comes.
    if not isinstance(number, str) or not LEAST_WIDTH <= len(number) <= GREATEST_WIDTH:
        return False
    return is_number(len(number), number)
