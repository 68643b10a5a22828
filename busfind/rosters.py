"""Rosters: fewer looks where it is known who may hang."""

from itertools import combinations

from busfind.errors import BadRoster, TooMany
from busfind.numbers import heard, is_number, met, require_width
from busfind.papers import require_looks

MOST_NUMBERS = 8
MOST_FOR_LEAST = 6


def require_roster(width, roster):
    """Refuse what is no roster of numbers of this width."""
    if not 1 <= len(roster) <= MOST_NUMBERS or not is_rising(width, roster):
        raise BadRoster(f"a roster is a rising list of one to {MOST_NUMBERS} numbers")


def is_rising(width, numbers):
    """Tell whether these are numbers of this width that rise."""
    return all(is_number(width, number) for number in numbers) and numbers == sorted(set(numbers))


def sets_of(roster):
    """Tell all sets of a roster's numbers, each rising, in a rising list."""
    sets = [[]]
    for number in roster:
        sets = sets + [[*numbers, number] for numbers in sets]
    return sorted(sets)


def judged(width, roster, looks):
    """Tell all sets of the roster's numbers of which these looks may tell."""
    require_width(width)
    require_roster(width, roster)
    require_looks(width, looks)
    return [numbers for numbers in sets_of(roster) if tells_so(numbers, looks)]


def tells_so(numbers, looks):
    """Tell whether just these looks are told where just these numbers hang."""
    return all(heard(numbers, beginning) == (zero, one) for beginning, zero, one in looks)


def least(width, roster, hung):
    """Tell the fewest beginnings at which looks show that of the roster just these hang."""
    require_width(width)
    require_roster(width, roster)
    if not is_rising(width, hung) or [number for number in hung if number not in roster]:
        raise BadRoster("what hangs is a rising list of the roster's numbers")
    if len(roster) > MOST_FOR_LEAST:
        raise TooMany(f"a roster of more than {MOST_FOR_LEAST}")
    others = [numbers for numbers in sets_of(roster) if numbers != hung]
    excluding = {}
    for beginning in met(width, roster):
        # Of beginnings that exclude the same the first is the one to tell.
        excluding.setdefault(excluded(hung, others, beginning), beginning)
    return first_cover(list(excluding.items()), len(others))


def excluded(hung, others, beginning):
    """Tell which others a look here excludes, a bit for each."""
    look = heard(hung, beginning)
    return sum([1 << at for at, numbers in enumerate(others) if heard(numbers, beginning) != look])


def first_cover(choices, many_others):
    """Tell the beginnings of the fewest and first choices that exclude all the others.

    A choice is (excluded, beginning); they stand with rising beginnings, and
    all of them together exclude all the others.
    """
    every = (1 << many_others) - 1
    # The choices rise, so combinations of as many come as their lists rise.
    for many in range(1, len(choices)):
        for some in combinations(choices, many):
            if united(some) == every:
                return [choice[1] for choice in some]
    return [choice[1] for choice in choices]


def united(choices):
    """Tell which others some of the choices exclude, a bit for each."""
    bits = 0
    for choice in choices:
        bits = bits | choice[0]
    return bits
