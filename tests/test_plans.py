import random
import unittest

from busfind.errors import BadPlan, BadRoster, BadWidth, NoRound, TooMany
from busfind.plans import followed, follows, plan_of
from busfind.wire import Wire
from test_numbers import BAD_WIDTHS, all_numbers
from test_papers import all_sets, beginnings_of
from test_rosters import BAD_ROSTERS, EIGHT, sets_of
from test_wire import heard, wire_with

NONE = ("hung", ())
FOUR = (NONE, None, None, NONE)
# For the width 4.
BAD_PLANS = (
    None, "", "hung", "look", (), ("hung",), ("look",), ("look", ""), (None,), (None, None), (None, ()),
    ("Hung", ()), ("", ()), ("none", ()), ("hun", ()), ("hung ", ()), (("hung",), ()), ((), ()),
    ("hung", None), ("hung", ""), ("hung", "0110"), ("hung", "0110", "1111"), ("hung", (), ()), ("hung", (), None),
    ("hung", ("",)), ("hung", ("011",)), ("hung", ("01100",)), ("hung", ("0120",)), ("hung", ("abcd",)),
    ("hung", ("0110\n",)), ("hung", ("01\u06611",)), ("hung", ("0110", "x")), ("hung", (None,)),
    ("hung", ("0110", None)), ("hung", (("0110",),)), ("hung", ((),)), (("hung", ()),), ("hung", NONE),
    ("look", "", ()), ("look", "", None), ("look", "", ""), ("look", "", "0110"), ("look", "", NONE),
    ("look", "", (NONE,)), ("look", "", (NONE,) * 3), ("look", "", (NONE,) * 5), ("look", "", (None,) * 3),
    ("look", "", (None,) * 5), ("look", FOUR), ("look", FOUR, ""), ("look", "", FOUR, None), ("look", "", "", FOUR),
    ("look", "", NONE, None, None, NONE), ("Look", "", FOUR), ("hung", "", FOUR), (None, "", FOUR), ("", "", FOUR),
    ("look", "0110", FOUR), ("look", "01101", FOUR), ("look", "2", FOUR), ("look", "0a", FOUR), ("look", " ", FOUR),
    ("look", "01\n", FOUR), ("look", "0\u0661", FOUR), ("look", None, FOUR), ("look", (), FOUR), ("look", ("",), FOUR),
    ("look", "", ("", None, None, NONE)), ("look", "", (None, None, None, "hung")), ("look", "", "hung"),
    ("look", "", (NONE, NONE, NONE, ())), ("look", "", ((None,), None, None, NONE)),
)


def look(beginning, *plans):
    return ("look", beginning, plans)


def place(pair):
    return [(False, False), (False, True), (True, False), (True, True)].index(pair)


def gone(plan, numbers):
    """Go along a plan where these hang: what it comes to, and the looks it takes."""
    looks = 0
    while plan is not None and plan[0] == "look":
        plan = plan[2][place(heard(numbers, plan[1]))]
        looks += 1
    return (plan, looks)


def followed_by_trying(roster, plan):
    worst = 0
    for numbers in sets_of(roster):
        told, looks = gone(plan, numbers)
        if told != ("hung", tuple(numbers)):
            return None
        worst = max(worst, looks)
    return worst


def can_tell(sets, beginnings, many, known):
    """Tell whether some plan of so many looks at the worst tells each of the sets."""
    if len(sets) < 2 or many == 0:
        return len(sets) < 2
    key = (tuple(map(tuple, sets)), many)
    if key not in known:
        known[key] = False
        for text in beginnings:
            parts = [[], [], [], []]
            for numbers in sets:
                parts[place(heard(numbers, text))].append(numbers)
            if sets not in parts and all(can_tell(part, beginnings, many - 1, known) for part in parts):
                known[key] = True
                break
    return known[key]


def leaves(plan, way=()):
    """Tell the ways to all that lies behind looks: plans of numbers, and None."""
    if plan is None or plan[0] == "hung":
        return [(way, plan)]
    return [row for at in range(4) for row in leaves(plan[2][at], way + (at,))]


def put(plan, way, other):
    """Tell the plan with another one at the end of a way."""
    if not way:
        return other
    plans = list(plan[2])
    plans[way[0]] = put(plans[way[0]], way[1:], other)
    return ("look", plan[1], tuple(plans))


def nested(many, inner=NONE, at=0, beginning=""):
    plan = inner
    for _ in range(many):
        plans = [None] * 4
        plans[at] = plan
        plan = ("look", beginning, tuple(plans))
    return plan


def plan_by_parents(roster, told=()):
    """Look at the text ahead of each number's last bit, one number after the other."""
    if not roster:
        return ("hung", told)
    number, rest = roster[0], roster[1:]
    without = plan_by_parents(rest, told)
    there = plan_by_parents(rest, told + (number,))
    if number[-1] == "0":
        return look(number[:-1], without, without, there, there)
    return look(number[:-1], without, there, without, there)


class PlanOfTest(unittest.TestCase):
    def check(self, width, roster, beginnings):
        told = plan_of(width, roster)
        self.assertIs(type(told), tuple)
        looks, plan = told
        self.assertIs(type(looks), int)
        self.assertEqual(followed_by_trying(roster, plan), looks)
        self.assertEqual(follows(width, roster, plan), looks)
        known = {}
        self.assertTrue(can_tell(sets_of(roster), beginnings, looks, known))
        self.assertFalse(can_tell(sets_of(roster), beginnings, looks - 1, known))
        self.assertEqual(plan_of(width, roster), told)
        return looks

    def test_all_rosters_of_small_widths(self):
        for width in (1, 2, 3):
            for roster in all_sets(all_numbers(width)):
                if 1 <= len(roster) <= 4:
                    self.check(width, roster, beginnings_of(width))

    def test_rosters_of_greater_widths(self):
        drawn = random.Random(12)
        seen = set()
        for _ in range(40):
            width = drawn.choice((4, 5, 12))
            numbers = EIGHT if width == 12 else all_numbers(width)
            roster = sorted(drawn.sample(numbers, drawn.randint(1, 4)))
            beginnings = sorted({number[:at] for number in roster for at in range(width)})
            seen.add(self.check(width, roster, beginnings))
        self.assertEqual(seen, {1, 2, 3})

    def test_examples(self):
        self.assertEqual(plan_of(1, ["0"])[0], 1)
        self.assertEqual(plan_of(1, ["0", "1"])[0], 1)
        self.assertEqual(plan_of(2, ["00", "01"])[0], 1)
        self.assertEqual(plan_of(2, ["00", "01", "10", "11"])[0], 2)
        self.assertEqual(plan_of(12, ["000000000000", "111111111111"])[0], 1)
        self.assertEqual(plan_of(3, ["000", "010", "100", "110"])[0], 2)

    def test_one_of_each_width(self):
        for width in range(1, 13):
            self.assertEqual(plan_of(width, ["1" * width])[0], 1)
            self.assertEqual(follows(width, ["1" * width], plan_of(width, ["1" * width])[1]), 1)

    def test_a_plan_is_made_of_tuples(self):
        for roster in (["000"], ["000", "011", "101", "110"]):
            waiting = [plan_of(3, roster)[1]]
            while waiting:
                plan = waiting.pop()
                if isinstance(plan, tuple):
                    waiting.extend(plan)
                else:
                    self.assertTrue(plan is None or type(plan) is str)

    def test_too_many(self):
        for many in (5, 6, 8):
            with self.assertRaises(TooMany):
                plan_of(12, EIGHT[:many])
        plan_of(12, EIGHT[4:])

    def test_too_many_comes_behind_bad_rosters(self):
        for roster in (EIGHT[4::-1], EIGHT[:5] + EIGHT[4:5], EIGHT[:5] + ["x"], EIGHT + ["111111111111"],
                       all_numbers(12)[:9], ["0"] + EIGHT[:5]):
            with self.assertRaises(BadRoster):
                plan_of(12, roster)
        for roster in BAD_ROSTERS:
            with self.assertRaises(BadRoster):
                plan_of(4, roster)

    def test_bad_widths_come_first(self):
        for width in BAD_WIDTHS:
            for roster in (EIGHT, EIGHT[:5], [], ["x"], ["1", "0"]):
                with self.assertRaises(BadWidth):
                    plan_of(width, roster)

    def test_what_is_handed_in_stays(self):
        roster = ["001", "010", "111"]
        told = plan_of(3, roster)
        self.assertEqual(roster, ["001", "010", "111"])
        roster.clear()
        self.assertEqual(follows(3, ["001", "010", "111"], told[1]), told[0])


class FollowsTest(unittest.TestCase):
    def test_examples(self):
        hung = ("hung", ("00",))
        for plan, told in (
            (look("", NONE, None, hung, None), 1),
            (look("0", NONE, None, hung, None), 1),
            (look("", NONE, NONE, hung, hung), 1),
            (look("1", NONE, None, hung, None), None),
            (look("", NONE, hung, None, None), None),
            (look("", hung, None, NONE, None), None),
            (look("", NONE, None, None, hung), None),
            (look("", None, None, hung, None), None),
            (NONE, None), (hung, None),
            (look("1", look("", NONE, None, hung, None), None, None, None), 2),
            (look("", NONE, None, look("0", None, None, hung, None), None), 2),
            (look("", look("0", NONE, None, None, None), None, hung, None), 2),
            (look("", look("0", NONE, None, None, None), None, look("", None, None, hung, None), None), 2),
        ):
            self.assertEqual(follows(2, ["00"], plan), told, plan)

    def test_the_worst_is_told(self):
        for deep in range(12):
            plan = look("", NONE, None, nested(deep, ("hung", ("00",)), 2), None)
            self.assertEqual(follows(2, ["00"], plan), deep + 1)
            plan = look("", nested(deep), None, ("hung", ("00",)), None)
            self.assertEqual(follows(2, ["00"], plan), deep + 1)
        told = follows(2, ["00"], look("", NONE, nested(11), ("hung", ("00",)), nested(3)))
        self.assertEqual((told, type(told)), (1, int))

    def test_of_all_four_answers(self):
        plan = look("", NONE, ("hung", ("1",)), ("hung", ("0",)), ("hung", ("0", "1")))
        self.assertEqual(follows(1, ["0", "1"], plan), 1)
        self.assertEqual(follows(1, ["0"], plan), 1)
        self.assertEqual(follows(1, ["1"], plan), 1)
        for one in range(4):
            for other in range(one):
                plans = list(plan[2])
                plans[one], plans[other] = plans[other], plans[one]
                self.assertIsNone(follows(1, ["0", "1"], look("", *plans)))

    def test_one_thing_told_otherwise(self):
        for width, roster in ((3, ["001"]), (3, ["000", "001", "110"]), (4, ["0010", "0110", "1100", "1111"])):
            looks, plan = plan_of(width, roster)
            reached = [numbers for _, numbers in leaves(plan) if numbers is not None]
            self.assertEqual(len(reached), 2 ** len(roster))
            others = [("hung", tuple(numbers)) for numbers in sets_of(roster)]
            for way, leaf in leaves(plan):
                for other in others + [None, ("hung", ("0" * width,)), ("hung", ("1" * width, "0" * width))]:
                    told = looks if other == leaf or leaf is None else None
                    self.assertEqual(follows(width, roster, put(plan, way, other)), told)

    def test_numbers_in_another_order_or_twice(self):
        roster = ["000", "001", "110"]
        looks, plan = plan_of(3, roster)
        for way, leaf in leaves(plan):
            if leaf is not None and leaf[1]:
                self.assertIsNone(follows(3, roster, put(plan, way, ("hung", leaf[1] + leaf[1][-1:]))))
                self.assertIsNone(follows(3, roster, put(plan, way, ("hung", leaf[1] * 2))))
            if leaf is not None and len(leaf[1]) > 1:
                self.assertIsNone(follows(3, roster, put(plan, way, ("hung", leaf[1][::-1]))))
        self.assertEqual(follows(3, roster, plan), looks)

    def test_looks_that_tell_nothing(self):
        roster = ["000", "001", "110"]
        looks, plan = plan_of(3, roster)
        for text in beginnings_of(3):
            self.assertEqual(follows(3, roster, look(text, plan, plan, plan, plan)), looks + 1)
            for way, leaf in leaves(plan):
                told = followed_by_trying(roster, put(plan, way, look(text, leaf, leaf, leaf, leaf)))
                self.assertEqual(follows(3, roster, put(plan, way, look(text, leaf, leaf, leaf, leaf))), told)
        # No number of the roster begins so: nothing is heard there.
        for text in ("01", "10"):
            self.assertEqual(follows(3, roster, look(text, plan, None, None, None)), looks + 1)
            self.assertIsNone(follows(3, roster, look(text, None, plan, plan, plan)))

    def test_plans_drawn(self):
        drawn = random.Random(11)
        told = []
        for _ in range(400):
            width = drawn.choice((1, 2, 3))
            roster = sorted(drawn.sample(all_numbers(width), drawn.randint(1, min(4, 2 ** width))))
            plan = plan_of(width, roster)[1]
            for _ in range(drawn.randint(0, 2)):
                way, leaf = drawn.choice(leaves(plan))
                text = drawn.choice(beginnings_of(width))
                other = ("hung", tuple(drawn.choice(sets_of(roster))))
                plan = put(plan, way, look(text, leaf, leaf, leaf, drawn.choice((leaf, other))))
            told.append(follows(width, roster, plan))
            self.assertEqual(told[-1], followed_by_trying(roster, plan))
        self.assertTrue({None, 1, 2, 3, 4} <= set(told))

    def test_more_than_plan_of_takes(self):
        for many in (5, 6, 7, 8):
            plan = plan_by_parents(tuple(all_numbers(3)[:many]))
            self.assertEqual(follows(3, all_numbers(3)[:many], plan), many)
            self.assertIsNone(follows(3, all_numbers(3)[:many - 1], plan_by_parents(tuple(all_numbers(3)[1:many]))))
        self.assertEqual(follows(12, EIGHT, plan_by_parents(tuple(EIGHT))), 8)

    def test_a_roster_of_fewer_than_the_plan_tells(self):
        looks, plan = plan_of(3, ["000", "001", "110", "111"])
        for roster in all_sets(["000", "001", "110", "111"])[1:]:
            self.assertLessEqual(follows(3, roster, plan), looks)
        self.assertIsNone(follows(3, ["010"], plan))
        self.assertIsNone(follows(3, ["000", "010"], plan))

    def test_how_deep_looks_may_lie(self):
        for at in range(4):
            self.assertIsNone(follows(2, ["00"], nested(12, None, at)))
            for inner in (NONE, None, ("hung", ("11",))):
                with self.assertRaises(BadPlan):
                    follows(2, ["00"], nested(13, inner, at))
        hung = ("hung", ("00",))
        self.assertEqual(follows(2, ["00"], nested(11, look("", NONE, None, hung, None), 0, "1")), 12)
        with self.assertRaises(BadPlan):
            follows(2, ["00"], nested(12, look("", NONE, None, hung, None), 0, "1"))
        # Side by side there may be more.
        row = (nested(11), nested(11), nested(11), nested(11))
        self.assertIsNone(follows(2, ["00"], look("1", *row)))
        with self.assertRaises(BadPlan):
            follows(2, ["00"], look("1", *row[:3], nested(12)))
        with self.assertRaises(BadPlan):
            follows(2, ["00"], nested(90000))

    def test_one_and_the_same_plan_in_many_places(self):
        plan = NONE
        for _ in range(12):
            plan = look("1", plan, plan, plan, plan)
        self.assertIsNone(follows(2, ["00"], plan))
        with self.assertRaises(BadPlan):
            follows(2, ["00"], look("1", plan, plan, plan, plan))
        with self.assertRaises(BadPlan):
            follows(2, ["00"], look("1", None, None, None, plan))

    def test_bad_plans(self):
        for plan in BAD_PLANS:
            with self.subTest(plan=plan):
                with self.assertRaises(BadPlan):
                    follows(4, ["0110"], plan)

    def test_bad_plans_within(self):
        for plan in BAD_PLANS[1:]:
            for at in range(4):
                for outer in (1, 5, 11):
                    with self.assertRaises(BadPlan):
                        follows(4, ["0110"], nested(outer, plan, at))
                plans = [NONE, NONE, NONE, NONE]
                plans[at] = plan
                with self.assertRaises(BadPlan):
                    follows(4, ["0110"], look("1", *plans))

    def test_lengths_of_each_width(self):
        for width in range(1, 13):
            number = "1" * width
            self.assertEqual(follows(width, [number], look(number[1:], NONE, ("hung", (number,)), None, None)), 1)
            for plan in (look(number, NONE, ("hung", (number,)), None, None),
                         look("", NONE, ("hung", (number + "1",)), None, None),
                         look("", NONE, ("hung", (number[1:],)), None, None)):
                with self.assertRaises(BadPlan):
                    follows(width, [number], plan)

    def test_in_which_turn_it_is_refused(self):
        for width in BAD_WIDTHS:
            for roster, plan in (([], None), (["x"], ()), (["0"], NONE)):
                with self.assertRaises(BadWidth):
                    follows(width, roster, plan)
        for roster in BAD_ROSTERS:
            for plan in (NONE, None, ("hung",), nested(13)):
                with self.assertRaises(BadRoster):
                    follows(4, roster, plan)

    def test_what_is_handed_in_stays(self):
        roster = ["001", "010"]
        plan = plan_of(3, roster)[1]
        self.assertEqual([follows(3, roster, plan), follows(3, roster, plan)], [plan_of(3, roster)[0]] * 2)
        self.assertEqual(roster, ["001", "010"])


class FollowedTest(unittest.TestCase):
    def check(self, wire, plan, told):
        before = (wire.hung(), wire.alarms(), wire.looks())
        self.assertEqual(followed(wire, plan), told)
        self.assertEqual((wire.hung(), wire.alarms(), wire.looks()), before[:2] + (before[2] + told[1],))

    def test_some_of_the_roster(self):
        for width, roster in ((1, ["0", "1"]), (3, ["000", "001", "110"]), (4, ["0010", "0110", "1100", "1111"]),
                              (12, EIGHT[2:6])):
            looks, plan = plan_of(width, roster)
            worst = 0
            for numbers in sets_of(roster):
                wire = wire_with(width, numbers[::-1], numbers[::2])
                told = (numbers, gone(plan, numbers)[1])
                self.check(wire, plan, told)
                self.check(wire, plan, told)
                worst = max(worst, told[1])
            self.assertEqual(worst, looks)

    def test_a_roster_of_eight(self):
        plan = plan_by_parents(tuple(EIGHT))
        for numbers in sets_of(EIGHT)[::17]:
            self.check(wire_with(12, numbers), plan, (numbers, 8))

    def test_others_of_no_roster(self):
        drawn = random.Random(4)
        for width, roster in ((2, ["00", "11"]), (3, ["000", "001", "110"]), (3, ["010"])):
            plan = plan_of(width, roster)[1]
            for _ in range(60):
                numbers = sorted(drawn.sample(all_numbers(width), drawn.randint(0, 2 ** width)))
                leaf, looks = gone(plan, numbers)
                told = None if leaf is None else list(leaf[1])
                self.check(wire_with(width, numbers), plan, (told, looks))

    def test_none_where_it_comes_to_none(self):
        plan = look("", None, look("1", NONE, None, NONE, None), NONE, None)
        self.check(wire_with(2, []), plan, (None, 1))
        self.check(wire_with(2, ["11"]), plan, (None, 2))
        self.check(wire_with(2, ["10"]), plan, ([], 2))
        self.check(wire_with(2, ["00"]), plan, ([], 1))
        self.check(wire_with(2, ["00", "10"]), plan, (None, 1))

    def test_each_of_four_answers(self):
        plan = look("0", ("hung", ("11",)), ("hung", ("01",)), ("hung", ("00",)), ("hung", ("00", "01")))
        for numbers, told in (([], ["11"]), (["10"], ["11"]), (["01", "10"], ["01"]), (["00"], ["00"]),
                              (["00", "01", "11"], ["00", "01"])):
            self.check(wire_with(2, numbers), plan, (told, 1))

    def test_rounds_are_of_kind_all(self):
        plan = plan_of(3, ["010", "011"])[1]
        for alarms in ([], ["010"], ["010", "011"]):
            self.assertEqual(followed(wire_with(3, ["010", "011"], alarms), plan)[0], ["010", "011"])

    def test_without_a_look(self):
        for numbers in ((), ("10",), ("01", "11"), ("11", "00"), ("11", "11")):
            wire = wire_with(2, ["00"])
            self.check(wire, ("hung", numbers), (list(numbers), 0))
            with self.assertRaises(NoRound):
                wire.look()

    def test_numbers_are_told_as_they_stand(self):
        plan = look("", NONE, ("hung", ("11", "00", "11")), None, None)
        self.check(wire_with(2, ["10"]), plan, (["11", "00", "11"], 1))

    def test_twelve_looks_and_a_thirteenth(self):
        wire = wire_with(2, ["01"])
        self.check(wire, nested(12, ("hung", ("01",)), 2), (["01"], 12))
        self.check(wire, nested(12, None, 2), (None, 12))
        with self.assertRaises(BadPlan):
            followed(wire, nested(13, ("hung", ("01",)), 2))
        self.assertEqual(wire.looks(), 24)

    def test_things_that_come_and_go_between(self):
        wire = wire_with(2, ["00"])
        plan = plan_of(2, ["00", "11"])[1]
        self.assertEqual(followed(wire, plan)[0], ["00"])
        wire.hang("11")
        self.assertEqual(followed(wire, plan)[0], ["00", "11"])
        wire.off("00")
        self.assertEqual(followed(wire, plan)[0], ["11"])
        wire.off("11")
        self.assertEqual(followed(wire, plan)[0], [])

    def test_bad_plans_come_ahead_of_any_look(self):
        for bad in BAD_PLANS:
            rows = [bad]
            if bad is not None:
                rows += [nested(1, bad, 2), nested(11, bad, 2), look("", NONE, NONE, NONE, bad)]
            for plan in rows:
                wire = wire_with(4, ["0110", "0111"], ["0111"])
                wire.begin("alarm")
                wire.say(0)
                with self.assertRaises(BadPlan):
                    followed(wire, plan)
                self.assertEqual((wire.looks(), wire.hung(), wire.alarms()), (0, ["0110", "0111"], ["0111"]))
                # The round that was under way is so still.
                wire.say(1)
                wire.say(1)
                self.assertEqual(wire.look(), (False, True))

    def test_plans_of_another_width(self):
        plan = plan_of(3, ["010", "011"])[1]
        for width in (1, 2, 4, 12):
            with self.assertRaises(BadPlan):
                followed(Wire(width), plan)

    def test_kinds_of_values(self):
        told = followed(wire_with(2, ["00"]), plan_of(2, ["00"])[1])
        self.assertEqual((type(told), [type(part) for part in told]), (tuple, [list, int]))
        told[0].append("x")
        self.assertEqual(followed(wire_with(2, ["00"]), plan_of(2, ["00"])[1]), (["00"], 1))


if __name__ == "__main__":
    unittest.main()
