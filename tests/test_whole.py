"""What is promised over the whole program, and how its parts go together."""

import copy
import inspect
import random
import unittest

from busfind import days, desk, errors, keeper, notes, numbers, papers, plans, rosters, walks, wire
from test_numbers import BAD_WIDTHS, GREAT, all_numbers
from test_walks import state
from test_wire import wire_with

ARGUMENTS = (
    (numbers.met, "width numbers"), (papers.shown, "width looks"), (papers.fewest, "width numbers"),
    (rosters.judged, "width roster looks"), (rosters.least, "width roster hung"),
    (plans.plan_of, "width roster"), (plans.followed, "wire plan"), (plans.follows, "width roster plan"),
    (days.played, "width steps"), (notes.written, "steps"), (notes.read, "text"),
    (wire.Wire, "width"), (walks.Walk, "wire kind"), (desk.Desk, "wire"), (keeper.Keeper, "wire"),
    *[(getattr(wire.Wire, name), "self number") for name in ("hang", "off", "alarm", "calm")],
    (wire.Wire.begin, "self kind"), (wire.Wire.say, "self bit"),
    *[(getattr(wire.Wire, name), "self") for name in ("look", "hung", "alarms", "looks")],
    *[(getattr(walks.Walk, name), "self")
      for name in ("step", "go_round", "go_all", "left", "found", "paper", "is_under_way")],
    (desk.Desk.turn, "self"), (keeper.Keeper.refresh, "self"), (keeper.Keeper.last, "self"),
)
PLAN = ("look", "", (("hung", ()), ("hung", ("110",)), ("hung", ("011",)), ("hung", ("011", "110"))))
ROSTER = ["011", "110"]
FIVE = ["000", "001", "010", "011", "100"]
SEVEN = [*FIVE, "101", "110"]
# A function, what may be handed in, and in each place what is refused there and how.
PLACES = (
    (numbers.met, (3, ROSTER), ((14, "BadWidth"), (["01"], "BadNumber"))),
    (papers.shown, (3, [("", True, True)]), ((0, "BadWidth"), ([("", 1, True)], "BadLooks"))),
    (papers.fewest, (3, ROSTER), ((True, "BadWidth"), ([5], "BadNumber"))),
    (rosters.judged, (3, ROSTER, []), ((-1, "BadWidth"), ([], "BadRoster"), ([("000", True, True)], "BadLooks"))),
    (rosters.least, (3, ROSTER, []), ((13, "BadWidth"), (["110", "011"], "BadRoster"), (["111"], "BadRoster"))),
    (plans.plan_of, (3, ROSTER), ((False, "BadWidth"), ([""], "BadRoster"))),
    (plans.follows, (3, ROSTER, PLAN), ((GREAT, "BadWidth"), (["0"], "BadRoster"), (("hung",), "BadPlan"))),
    (days.played, (3, [("turn",)]), ((-GREAT, "BadWidth"), ([("turns",)], "BadStep"))),
)


class InterfaceTest(unittest.TestCase):
    def test_arguments(self):
        for told, names in ARGUMENTS:
            self.assertEqual(list(inspect.signature(told).parameters), names.split(), told)


class RefusedTest(unittest.TestCase):
    def check_refused(self, name, call, *handed):
        with self.assertRaises(errors.BusError) as caught:
            call(*handed)
        self.assertIs(type(caught.exception), getattr(errors, name))

    def test_what_is_handed_in_first_is_refused_first(self):
        for call, good, bad in PLACES:
            call(*good)
            for at, (handed, name) in enumerate(bad):
                # Whatever stands behind it, good or bad.
                for many in range(2 ** (len(good) - at - 1)):
                    rest = [bad[k][0] if many >> (k - at - 1) & 1 else good[k] for k in range(at + 1, len(good))]
                    self.check_refused(name, call, *good[:at], handed, *rest)

    def test_too_many_comes_behind_all_else(self):
        self.check_refused("TooMany", rosters.least, 3, SEVEN, [])
        self.check_refused("BadRoster", rosters.least, 3, SEVEN, ["111"])
        self.check_refused("BadWidth", rosters.least, 0, SEVEN, [])
        self.check_refused("TooMany", plans.plan_of, 3, FIVE)
        self.check_refused("BadWidth", plans.plan_of, 0, FIVE)

    def test_bad_widths(self):
        for width in BAD_WIDTHS:
            self.check_refused("BadWidth", wire.Wire, width)
            for call, good, _ in PLACES:
                self.check_refused("BadWidth", call, width, *good[1:])

    def test_numbers_of_any_size_as_numbers_of_things(self):
        on = wire_with(3, ROSTER)
        for great in (GREAT, -GREAT, 10, 0):
            for call in (on.hang, on.off, on.alarm, on.calm):
                self.check_refused("BadNumber", call, great)
            self.check_refused("BadNumber", numbers.met, 3, [great])
            self.check_refused("BadNumber", papers.fewest, 3, ["011", great])
            self.check_refused("BadStep", days.played, 3, [("hang", great)])
            self.check_refused("BadStep", notes.written, [("hang", great)])
            self.check_refused("BadStep", notes.written, [(great,)])

    def refuse_much(self, on, walk):
        """Call whatever is refused; what is told of nothing is told apart."""
        for number in (*on.hung(), "01", "0110", "abc", 5, GREAT):
            self.check_refused("There" if number in on.hung() else "BadNumber", on.hang, number)
        for number in ("111", "01", "0110", "abc", 5, GREAT):
            for call in (on.off, on.alarm, on.calm):
                self.check_refused("NotThere" if number == "111" else "BadNumber", call, number)
        for kind in ("", "All", "alarms"):
            self.check_refused("BadKind", on.begin, kind)
            self.check_refused("BadKind", walks.Walk, on, kind)
        for plan in (None, (), ("hung", ("01",)), ("look", "", ()), ("look", "000", (None,) * 4)):
            self.check_refused("BadPlan", plans.followed, on, plan)
        if walk.is_under_way():
            for bit in (2, -1, True, False, GREAT):
                self.check_refused("BadBit", on.say, bit)
        else:
            for bit in (0, 1, 2, True, GREAT):
                self.check_refused("NoRound", on.say, bit)
            self.check_refused("NoRound", on.look)
            if not walk.left():
                self.check_refused("Over", walk.step)
                self.check_refused("Over", walk.go_round)

    def test_what_is_refused_changes_nothing_and_counts_no_look(self):
        for kind in ("all", "alarm"):
            pairs = []
            for _ in range(2):
                on = wire_with(3, ["001", "010", "011", "110"], ["010", "110"])
                pairs.append((on, walks.Walk(on, kind)))
            (on, walk), (other, beside) = pairs
            for _ in range(12):
                # Here no round is lost, so behind each of them all bits are said.
                self.refuse_much(on, walk)
                self.assertEqual((on.hung(), on.alarms(), on.looks()), (other.hung(), other.alarms(), other.looks()))
                self.assertEqual(state(walk), state(beside))
                if walk.left() or walk.is_under_way():
                    self.assertEqual(walk.step(), beside.step())
            self.assertEqual((walk.left(), walk.found()), ([], other.hung() if kind == "all" else other.alarms()))

    def test_desk_and_keeper_go_on_behind_refusals(self):
        on, other = wire_with(3, ["001", "010"], ["010"]), wire_with(3, ["001", "010"], ["010"])
        for one, two in ((desk.Desk(on).turn, desk.Desk(other).turn),
                         (keeper.Keeper(on).refresh, keeper.Keeper(other).refresh)):
            for _ in range(5):
                self.check_refused("There", on.hang, "001")
                self.check_refused("NotThere", on.off, "111")
                self.check_refused("BadKind", on.begin, "none")
                self.assertEqual(one(), two())
                self.assertEqual((on.looks(), on.alarms()), (other.looks(), other.alarms()))


class HandedInTest(unittest.TestCase):
    def handed(self):
        return (
            (numbers.met, [3, ["110", "011"]]), (papers.shown, [3, [("0", False, True), ("01", True, False)]]),
            (papers.fewest, [3, ["110", "011", "110"]]), (rosters.judged, [3, ["011", "110"], [("", True, True)]]),
            (rosters.least, [3, ["001", "011", "110"], ["011", "110"]]), (plans.plan_of, [3, ["011", "110"]]),
            (plans.follows, [3, ["011", "110"], PLAN]),
            (days.played, [3, [("hang", "011"), ("refresh",), ("refresh",), ("round",)]]),
            (notes.written, [[("hang", "011"), ("refresh",)]]), (notes.read, ["hang 011\nrefresh"]),
        )

    def test_nothing_is_changed_and_the_same_is_told_again(self):
        for call, given in self.handed():
            before = copy.deepcopy(given)
            told = call(*given)
            self.assertEqual(given, before)
            self.assertEqual([call(*given), call(*given)], [told, told])

    def test_what_is_handed_in_may_be_changed_later(self):
        for call, given in self.handed():
            told = call(*given)
            kept = copy.deepcopy(told)
            for part in given:
                if isinstance(part, list):
                    part.clear()
            self.assertEqual(told, kept)

    def test_what_is_told_may_be_changed(self):
        for call, given in self.handed():
            told = call(*given)
            kept, before = copy.deepcopy(told), copy.deepcopy(given)
            self.spoil(told)
            self.assertEqual((given, call(*given)), (before, kept))

    def spoil(self, told):
        """Change all lists in this, the inner ones first."""
        if isinstance(told, (list, tuple)):
            for part in told:
                self.spoil(part)
        if isinstance(told, list):
            told.append("spoilt")
            told.insert(0, "spoilt")

    def test_no_list_is_told_in_two_places(self):
        for call, given in self.handed():
            lists = self.lists_in(call(*given))
            self.assertEqual(len({id(part) for part in lists}), len(lists))

    def lists_in(self, told):
        if not isinstance(told, (list, tuple)):
            return []
        return [part for inner in told for part in self.lists_in(inner)] + ([told] if isinstance(told, list) else [])

    def test_numbers_told_are_no_truths(self):
        on = wire_with(3, ROSTER)
        told = [on.looks(), plans.plan_of(3, ROSTER)[0], plans.follows(3, ROSTER, PLAN), plans.followed(on, PLAN)[1],
                plans.followed(on, ("hung", ()))[1], days.played(3, [])[2], days.played(3, [("turn",)])[2]]
        self.assertEqual([type(number) for number in told], [int] * len(told))
        self.assertEqual(told, [0, 1, 1, 1, 0, 0, 2])
        for call, given in ((papers.shown, (3, [()])), (days.played, (3, [()])), (notes.written, ([()],)),
                            (notes.read, ("no",))):
            with self.assertRaises(errors.BusError) as caught:
                call(*given)
            carried = caught.exception.row if call is notes.read else caught.exception.number
            self.assertEqual((type(carried), carried), (int, 0))


class TogetherTest(unittest.TestCase):
    def drawn_sets(self, seed, most):
        drawn = random.Random(seed)
        for width in (1, 2, 3, 4, 6, 12):
            for _ in range(20):
                some = drawn.sample(all_numbers(width), drawn.randint(0, min(2 ** width, most)))
                yield drawn, width, sorted(some)

    def test_a_walk_finds_and_its_paper_shows(self):
        for _, width, hung in self.drawn_sets(7, 12):
            on = wire_with(width, hung)
            walk = walks.Walk(on, "all")
            self.assertEqual(walk.go_all(), hung)
            self.assertEqual(on.looks(), len(walk.paper()))
            self.assertEqual(sorted(look[0] for look in walk.paper()), numbers.met(width, hung))
            self.assertEqual(papers.shown(width, walk.paper()), ("one", hung))

    def test_those_looks_alone_show_it_and_none_may_be_left_out(self):
        for _, width, hung in self.drawn_sets(8, 8):
            walk = walks.Walk(wire_with(width, hung), "all")
            walk.go_all()
            some = [look for look in walk.paper() if look[1:] != (True, True) or len(look[0]) == width - 1]
            self.assertEqual(sorted(look[0] for look in some), papers.fewest(width, hung))
            self.assertEqual(papers.shown(width, some), ("one", hung))
            for at in range(len(some)):
                self.assertEqual(papers.shown(width, some[:at] + some[at + 1:]), ("more",))

    def test_fewer_looks_where_it_is_known_who_may_hang(self):
        for drawn, width, roster in self.drawn_sets(9, 4):
            if not roster:
                continue
            hung = sorted(drawn.sample(roster, drawn.randint(0, len(roster))))
            on = wire_with(width, hung)
            few = rosters.least(width, roster, hung)
            self.assertLessEqual(len(few), len(papers.fewest(width, hung)))
            told = [(text, *plans.look_behind(on, text)) for text in few]
            self.assertEqual(rosters.judged(width, roster, told), [hung])
            looks, plan = plans.plan_of(width, roster)
            self.assertEqual(plans.follows(width, roster, plan), looks)
            before = on.looks()
            found, taken = plans.followed(on, plan)
            self.assertEqual((found, on.looks() - before), (hung, taken))
            self.assertLessEqual(taken, looks)
            self.assertLessEqual(len(few), taken)

    def test_desk_keeper_and_day_find_the_same(self):
        for drawn, width, hung in self.drawn_sets(13, 12):
            alarms = sorted(drawn.sample(hung, len(hung) // 2))
            on = wire_with(width, hung, alarms)
            self.assertEqual(keeper.Keeper(on).refresh(), (hung, []))
            at_desk, turns = desk.Desk(on), len(alarms) + len(hung) + 2
            told = [at_desk.turn() for _ in range(turns)]
            self.assertEqual([row[1] for row in told if row[0] == "alarm"], alarms)
            self.assertEqual([row[1] for row in told if row[0] == "found"], hung)
            steps = [*[("hang", number) for number in hung], *[("alarm", number) for number in alarms], ("refresh",),
                     *[("turn",)] * turns]
            self.assertEqual(notes.read(notes.written(steps)), steps)
            day = days.played(width, steps)
            self.assertEqual(day, ([None] * (len(hung) + len(alarms)) + [(hung, []), *told], hung, on.looks()))


if __name__ == "__main__":
    unittest.main()
