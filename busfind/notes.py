"""Notes: the steps of a day written as rows, and read again."""

from busfind.errors import BadText
from busfind.steps import MOST_STEPS, is_step, require_steps


def written(steps):
    """Tell the text that writes these steps, a row for each."""
    require_steps(steps)
    return "\n".join([" ".join(step) for step in steps])


def read(text):
    """Tell the steps that a text writes."""
    # The empty text has one empty row, which would write no step.
    rows = text.split("\n") if text else []
    steps = []
    for number, row in enumerate(rows):
        # Two blanks side by side, or one at an end, leave an empty word, which no step has.
        step = tuple(row.split(" "))
        if number == MOST_STEPS or not is_step(step):
            raise BadText(number)
        steps.append(step)
    return steps
