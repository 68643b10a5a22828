"""Plans: what to look at next, by what was heard, where it is known who may hang."""

from busfind.errors import BadPlan, TooMany
from busfind.numbers import heard, is_beginning, is_number, met, require_width
from busfind.rosters import require_roster, sets_of
from busfind.wire import Wire

MOST_WITHIN = 12
MOST_FOR_PLAN = 4
# A look tells nothing, a 1 alone, a 0 alone, or both.
MANY_ANSWERS = 4


def answer_of(look):
    """Tell at which place of a look's plans it goes on by what is heard."""
    zero, one = look
    return (2 if zero else 0) + (1 if one else 0)


def require_plan(width, plan):
    """Refuse what is no plan for numbers of this width."""
    if not is_plan(width, plan, MOST_WITHIN):
        raise BadPlan("a plan is (hung, numbers) or (look, beginning, plans)")


def is_plan(width, plan, many_within):
    """Tell whether this is a plan with at most so many looks within one another."""
    if not isinstance(plan, tuple):
        return False
    if len(plan) == 2 and plan[0] == "hung":
        return isinstance(plan[1], tuple) and all(is_number(width, number) for number in plan[1])
    if len(plan) != 3 or plan[0] != "look" or many_within == 0:
        return False
    return is_beginning(width, plan[1]) and are_plans(width, plan[2], many_within - 1)


def are_plans(width, plans, many_within):
    """Tell whether these are the plans of a look: four, some of them None perhaps."""
    if not isinstance(plans, tuple) or len(plans) != MANY_ANSWERS:
        return False
    for at, plan in enumerate(plans):
        # One that stands here already is passed over: where one and the same
        # stands four times in each of twelve, there are millions to judge else.
        is_new = plan is not None and plan not in plans[:at]
        if is_new and not is_plan(width, plan, many_within):
            return False
    return True


def plan_of(width, roster):
    """Tell how few looks do at the worst, and a plan that does by so many."""
    require_width(width)
    require_roster(width, roster)
    if len(roster) > MOST_FOR_PLAN:
        raise TooMany(f"a roster of more than {MOST_FOR_PLAN}")
    sets = sets_of(roster)
    return best_plan(telling(met(width, roster), sets), sets, {})


def telling(beginnings, sets):
    """Tell the beginnings without those that part the sets as an earlier one does."""
    firsts = {}
    for beginning in beginnings:
        looks = [heard(numbers, beginning) for numbers in sets]
        firsts.setdefault(tuple([looks.index(look) for look in looks]), beginning)
    return list(firsts.values())


def best_plan(beginnings, sets, known):
    """Tell the fewest looks and a plan that tell each of these sets, known from earlier or not."""
    if len(sets) == 1:
        return (0, ("hung", tuple(sets[0])))
    # Many ways lead to the same sets.
    key = tuple([tuple(numbers) for numbers in sets])
    if key not in known:
        known[key] = sought_plan(beginnings, sets, known)
    return known[key]


def sought_plan(beginnings, sets, known):
    """Try all beginnings that part these sets, of which there are several."""
    best = None
    for beginning in beginnings:
        parts = parted(sets, beginning)
        if sets in parts:
            continue
        told = [best_plan(beginnings, part, known) if part else (0, None) for part in parts]
        looks = 1 + max([row[0] for row in told])
        if best is None or looks < best[0]:
            best = (looks, ("look", beginning, tuple([row[1] for row in told])))
    return best


def parted(sets, beginning):
    """Tell the sets in four lists, by what is heard of each at this beginning."""
    parts = [[] for _ in range(MANY_ANSWERS)]
    for numbers in sets:
        parts[answer_of(heard(numbers, beginning))].append(numbers)
    return parts


def follows(width, roster, plan):
    """Tell the looks of a plan at the worst, None if it tells a set of the roster otherwise."""
    require_width(width)
    require_roster(width, roster)
    require_plan(width, plan)
    worst = 0
    for numbers in sets_of(roster):
        told, looks = gone_along(wire_of(width, numbers), plan)
        if told != numbers:
            return None
        worst = max(worst, looks)
    return worst


def wire_of(width, numbers):
    """Tell a wire on which these hang."""
    wire = Wire(width)
    for number in numbers:
        wire.hang(number)
    return wire


def followed(wire, plan):
    """Go along a plan on a wire; tell the numbers it comes to, or None, and the looks it took."""
    require_plan(wire.width, plan)
    return gone_along(wire, plan)


def gone_along(wire, plan):
    """Go along what surely is a plan."""
    looks = 0
    while plan is not None and plan[0] == "look":
        plan = plan[2][answer_of(look_behind(wire, plan[1]))]
        looks += 1
    return (None if plan is None else list(plan[1]), looks)


def look_behind(wire, beginning):
    """Look behind the bits of a beginning, in a round of its own."""
    wire.begin("all")
    for sign in beginning:
        wire.say(int(sign))
    return wire.look()
