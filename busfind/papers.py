"""Papers: what looks show of the things that hang on a wire."""

from busfind.errors import BadLooks
from busfind.numbers import is_beginning, met, require_width

MOST_LOOKS = 100
# Of sets that are not empty two are enough to know that there are several.
ENOUGH = 2


def require_looks(width, looks):
    """Refuse what is no list of looks on a wire of this width."""
    for number, look in enumerate(looks):
        if number == MOST_LOOKS or not is_look(width, look):
            raise BadLooks(number)


def is_look(width, look):
    """Tell whether this is (beginning, zero, one)."""
    if len(look) != 3:
        return False
    beginning, zero, one = look
    # 0 and 1 are no truths, though they are equal to them.
    return is_beginning(width, beginning) and isinstance(zero, bool) and isinstance(one, bool)


def shown(width, looks):
    """Tell whether no set of things, just one, or several tell so, and the one."""
    require_width(width)
    require_looks(width, looks)
    sets = sets_behind(width, opened_by(looks), told_by(looks), "")
    if not sets:
        return ("none",)
    if len(sets) == 1:
        return ("one", sets[0])
    return ("more",)


def opened_by(looks):
    """Tell the beginnings of looks and all texts that these begin with, as keys."""
    return {look[0][:length]: True for look in looks for length in range(len(look[0]) + 1)}


def told_by(looks):
    """Tell of each text all that looks say of it: whether some numbers begin with it."""
    told = {}
    for beginning, zero, one in looks:
        told.setdefault(beginning + "0", []).append(zero)
        told.setdefault(beginning + "1", []).append(one)
    return told


def sets_behind(width, opened, told, text):
    """Tell the sets of numbers beginning with the text that tell as told.

    The empty set is told if it does, and of the others as many as are enough.
    """
    if text in opened:
        lower = sets_behind(width, opened, told, text + "0")
        upper = sets_behind(width, opened, told, text + "1")
        sets = [some + others for some in lower for others in upper]
    else:
        sets = unlooked(width, text)
    truths = told.get(text, [])
    # A set does not tell so if a look says the contrary; looks may say both.
    sets = [numbers for numbers in sets if (not numbers) not in truths]
    empty = [numbers for numbers in sets if not numbers]
    return empty + [numbers for numbers in sets if numbers][:ENOUGH]


def unlooked(width, text):
    """Tell some sets of numbers beginning with a text behind which nobody looked."""
    if len(text) == width:
        return [[], [text]]
    rest = width - len(text)
    return [[], [text + "0" * rest], [text + "1" * rest]]


def fewest(width, numbers):
    """Tell the fewest beginnings at which looks show that just these hang, rising."""
    beginnings = met(width, numbers)
    reached = {number[:length]: True for number in numbers for length in range(width + 1)}
    return [beginning for beginning in beginnings if is_needed(width, reached, beginning)]


def is_needed(width, reached, beginning):
    """Tell whether a look at this beginning, with which numbers begin, may not be left out."""
    # Unless both are heard, some side is to be shown empty: but for this look
    # only looks on that side do that, which stand later and are no fewer.
    # Where both are heard the looks behind show it, if there can be any.
    both = beginning + "0" in reached and beginning + "1" in reached
    return not both or len(beginning) == width - 1
