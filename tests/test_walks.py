import itertools
import random
import unittest

from busfind.errors import BadKind, NoRound, Over
from busfind.numbers import met
from busfind.walks import Walk
from busfind.wire import Wire
from test_numbers import all_numbers
from test_wire import BAD_KINDS, heard, wire_with

FORTY = sorted(format(at * 97 % 4096, "012b") for at in range(40))


def state(walk):
    return (walk.left(), walk.found(), walk.paper(), walk.is_under_way())


def steps_to_the_end(walk):
    told = []
    while walk.left() or walk.is_under_way():
        told.append(walk.step())
    return told


class StepTest(unittest.TestCase):
    def test_other_kinds_are_refused(self):
        wire = wire_with(2, ["01", "10"])
        wire.begin("all")
        wire.say(0)
        for kind in BAD_KINDS:
            with self.assertRaises(BadKind):
                Walk(wire, kind)
        self.assertEqual((wire.looks(), wire.look()), (0, (False, True)))

    def test_a_new_walk(self):
        for kind in ("all", "alarm"):
            wire = wire_with(2, ["01"])
            walk = Walk(wire, kind)
            self.assertEqual(state(walk), ([""], [], [], False))
            self.assertEqual(wire.looks(), 0)
            with self.assertRaises(NoRound):
                wire.look()

    def test_step_by_step(self):
        wire = wire_with(3, ["010", "011", "110"])
        walk = Walk(wire, "all")
        looks = [("", True, True), ("0", False, True), ("01", True, True), ("1", False, True), ("11", True, False)]
        for told, left, found, many_looks, under_way in (
            (None, [], [], 0, True),
            (None, ["1"], [], 1, True),
            (None, ["1"], [], 2, True),
            (("found", "010"), ["1", "011"], ["010"], 3, False),
            (("found", "011"), ["1"], ["010", "011"], 3, False),
            (None, [], ["010", "011"], 3, True),
            (None, [], ["010", "011"], 4, True),
            (("found", "110"), [], ["010", "011", "110"], 5, False),
        ):
            self.assertEqual(walk.step(), told)
            self.assertEqual(state(walk), (left, found, looks[:many_looks], under_way))
            self.assertEqual(wire.looks(), many_looks)
        self.check_over(wire, walk)

    def check_over(self, wire, walk):
        before = (state(walk), wire.looks(), wire.hung(), wire.alarms())
        for ask in (walk.step, walk.go_round, walk.step):
            with self.assertRaises(Over):
                ask()
        self.assertEqual((state(walk), wire.looks(), wire.hung(), wire.alarms()), before)

    def test_what_is_said_on_the_wire(self):
        numbers = ["010", "011", "110"]
        for many, said in enumerate(("", "0", "01", None, None, "1", "11", None), start=1):
            wire = wire_with(3, numbers)
            walk = Walk(wire, "all")
            for _ in range(many):
                walk.step()
            if said is None:
                # All bits were said, so the round is over there, too.
                with self.assertRaises(NoRound):
                    wire.look()
            else:
                self.assertEqual(wire.look(), heard(numbers, said))

    def test_a_round_is_begun_by_its_step(self):
        wire = wire_with(2, ["00"])
        walk = Walk(wire, "all")
        wire.hang("01")
        self.assertIsNone(walk.step())
        wire.hang("10")
        self.assertEqual([walk.step(), walk.step()], [None, ("found", "00")])
        self.assertEqual(walk.paper(), [("", True, False), ("0", True, True)])

    def test_each_kind_of_round(self):
        wire = wire_with(2, ["00", "01", "10", "11"], ["01", "11"])
        self.assertEqual(Walk(wire, "alarm").go_all(), ["01", "11"])
        self.assertEqual(Walk(wire, "all").go_all(), ["00", "01", "10", "11"])

    def test_lost_at_the_very_first_look(self):
        for width in (1, 5, 12):
            for kind, numbers in (("all", []), ("alarm", []), ("alarm", ["1" * width])):
                wire = wire_with(width, numbers)
                walk = Walk(wire, kind)
                self.assertIsNone(walk.step())
                self.assertEqual((state(walk), wire.looks()), (([], [], [], True), 0))
                self.assertEqual(walk.step(), ("lost",))
                self.assertEqual((state(walk), wire.looks()), (([], [], [("", False, False)], False), 1))
                self.check_over(wire, walk)

    def test_lost_on_the_way(self):
        wire = wire_with(3, ["000", "001", "100"])
        walk = Walk(wire, "all")
        self.assertEqual([walk.step(), walk.step()], [None, None])
        wire.off("000")
        wire.off("001")
        self.assertEqual(walk.step(), ("lost",))
        self.assertEqual(state(walk), (["1"], [], [("", True, True), ("0", False, False)], False))
        self.assertEqual(walk.go_round(), ("found", "100"))
        self.check_over(wire, walk)

    def test_lost_behind_a_beginning_of_the_row(self):
        wire = wire_with(3, ["000", "100"])
        walk = Walk(wire, "all")
        self.assertEqual(walk.go_round(), ("found", "000"))
        wire.off("100")
        self.assertIsNone(walk.step())
        self.assertEqual(walk.step(), ("lost",))
        self.assertEqual(walk.paper()[-1], ("1", False, False))
        self.check_over(wire, walk)

    def test_a_whole_number_is_found_without_a_look(self):
        wire = wire_with(2, ["00", "01"])
        walk = Walk(wire, "all")
        self.assertEqual(walk.go_round(), ("found", "00"))
        self.assertEqual((walk.left(), wire.looks()), (["01"], 2))
        wire.off("01")
        # Nobody looks any more, so nobody hears that it was taken off.
        self.assertEqual(walk.step(), ("found", "01"))
        self.assertEqual((walk.left(), wire.looks()), ([], 2))
        with self.assertRaises(NoRound):
            wire.look()

    def test_width_one(self):
        for numbers, told, paper in (
            ([], [None, ("lost",)], [("", False, False)]),
            (["0"], [None, ("found", "0")], [("", True, False)]),
            (["1"], [None, ("found", "1")], [("", False, True)]),
            (["0", "1"], [None, ("found", "0"), ("found", "1")], [("", True, True)]),
        ):
            wire = wire_with(1, numbers)
            walk = Walk(wire, "all")
            self.assertEqual(steps_to_the_end(walk), told)
            self.assertEqual(walk.paper(), paper)
            self.check_over(wire, walk)

    def test_width_one_row(self):
        walk = Walk(wire_with(1, ["0", "1"]), "all")
        walk.step()
        self.assertEqual(walk.step(), ("found", "0"))
        self.assertEqual(state(walk), (["1"], ["0"], [("", True, True)], False))

    def test_width_twelve(self):
        number = "010011101001"
        wire = wire_with(12, [number, "010011101000"])
        walk = Walk(wire, "all")
        expected = [None] * 12 + [("found", "010011101000"), ("found", number)]
        self.assertEqual(steps_to_the_end(walk), expected)
        told = [(number[:at], number[at] == "0", number[at] == "1") for at in range(11)]
        self.assertEqual(walk.paper(), told + [(number[:11], True, True)])
        self.check_over(wire, walk)

    def test_over_leaves_a_round_on_the_wire(self):
        wire = wire_with(2, ["10"])
        walk = Walk(wire, "all")
        walk.go_all()
        wire.begin("all")
        wire.say(1)
        with self.assertRaises(Over):
            walk.step()
        self.assertEqual(wire.look(), (True, False))

    def test_kinds_of_values(self):
        wire = wire_with(2, ["00", "01", "11"])
        walk = Walk(wire, "all")
        self.assertIs(walk.is_under_way(), False)
        walk.step()
        self.assertIs(walk.is_under_way(), True)
        walk.step()
        came = walk.step()
        self.assertEqual((type(came), [type(row) for row in came]), (tuple, [str, str]))
        for told in (walk.left(), walk.found(), walk.paper(), walk.go_all()):
            self.assertIs(type(told), list)
        for look in walk.paper():
            self.assertEqual((type(look), [type(part) for part in look]), (tuple, [str, bool, bool]))


class GoTest(unittest.TestCase):
    def test_go_round_from_the_beginning(self):
        walk = Walk(wire_with(3, ["010", "011", "110"]), "all")
        self.assertEqual([walk.go_round(), walk.go_round()], [("found", "010"), ("found", "011")])
        self.assertFalse(walk.is_under_way())
        self.assertEqual((walk.left(), len(walk.paper())), (["1"], 3))
        self.assertEqual(walk.go_round(), ("found", "110"))

    def test_go_round_from_the_middle(self):
        for many in (1, 2, 3):
            walk = Walk(wire_with(3, ["010", "011", "110"]), "all")
            for _ in range(many):
                self.assertIsNone(walk.step())
            self.assertEqual(walk.go_round(), ("found", "010"))
            self.assertEqual(state(walk)[:2], (["1", "011"], ["010"]))

    def test_go_round_of_a_lost_round(self):
        self.assertEqual(Walk(Wire(4), "all").go_round(), ("lost",))
        walk = Walk(Wire(4), "all")
        walk.step()
        self.assertEqual(walk.go_round(), ("lost",))

    def test_go_round_over(self):
        for numbers in ([], ["010"], ["010", "011"]):
            walk = Walk(wire_with(3, numbers), "all")
            for _ in range(max(1, len(numbers))):
                walk.go_round()
            before = state(walk)
            with self.assertRaises(Over):
                walk.go_round()
            self.assertEqual(state(walk), before)

    def test_go_all_from_everywhere(self):
        numbers = ["010", "011", "110"]
        for many in range(9):
            walk = Walk(wire_with(3, numbers), "all")
            for _ in range(many):
                walk.step()
            self.assertEqual(walk.go_all(), numbers)
            self.assertEqual((walk.left(), walk.is_under_way()), ([], False))

    def test_go_all_where_there_is_nothing_to_do(self):
        for numbers in ([], ["010"], ["010", "011"]):
            wire = wire_with(3, numbers)
            walk = Walk(wire, "all")
            walk.go_all()
            before = (state(walk), wire.looks())
            self.assertEqual([walk.go_all(), walk.go_all(), walk.found()], [numbers] * 3)
            self.assertEqual((state(walk), wire.looks()), before)

    def test_go_all_of_a_lost_rest(self):
        wire = wire_with(2, ["00", "10"])
        walk = Walk(wire, "all")
        walk.go_round()
        wire.off("10")
        self.assertEqual(walk.go_all(), ["00"])
        self.assertEqual(walk.paper()[-1], ("1", False, False))

    def test_told_lists_may_be_changed(self):
        numbers = ["010", "011", "110"]
        walk, other = Walk(wire_with(3, numbers), "all"), Walk(wire_with(3, numbers), "all")
        for _ in range(9):
            for told in (walk.left(), walk.found(), walk.paper()):
                told.append("x")
                told.insert(0, "y")
            walk.left().clear()
            self.assertEqual(state(walk), state(other))
            self.assertEqual(state(walk), state(walk))
            if other.left() or other.is_under_way():
                self.assertEqual(walk.step(), other.step())
        told = walk.go_all()
        told.clear()
        self.assertEqual((walk.go_all(), walk.found()), (numbers, numbers))

    def test_told_lists_stay_as_they_were(self):
        walk = Walk(wire_with(3, ["010", "011", "110"]), "all")
        told = (walk.left(), walk.found(), walk.paper())
        walk.go_all()
        self.assertEqual(told, ([""], [], []))

    def test_two_walks_one_after_the_other(self):
        wire = wire_with(2, ["00", "11"], ["11"])
        one, other = Walk(wire, "all"), Walk(wire, "alarm")
        self.assertEqual(one.go_round(), ("found", "00"))
        self.assertEqual(other.go_all(), ["11"])
        self.assertEqual((one.left(), one.found()), (["1"], ["00"]))
        self.assertEqual(one.go_all(), ["00", "11"])


class StillWireTest(unittest.TestCase):
    def check_still(self, wire, kind, numbers, width):
        walk = Walk(wire, kind)
        before = (wire.hung(), wire.alarms(), wire.looks())
        came = []
        while walk.left():
            came.append(walk.go_round())
        self.assertEqual(walk.found(), sorted(numbers))
        self.assertEqual(came, [("found", number) for number in sorted(numbers)] or [("lost",)])
        beginnings = met(width, numbers)
        self.assertEqual(wire.looks() - before[2], len(beginnings))
        self.assertEqual(sorted(walk.paper()), [(text, *heard(numbers, text)) for text in beginnings])
        self.assertEqual((wire.hung(), wire.alarms()), before[:2])

    def test_all_sets_of_small_widths(self):
        for width in (1, 2, 3):
            numbers = all_numbers(width)
            for many in range(len(numbers) + 1):
                for some in itertools.combinations(numbers, many):
                    self.check_still(wire_with(width, some[::-1]), "all", list(some), width)
                    self.check_still(wire_with(width, numbers, some), "alarm", list(some), width)

    def test_all_numbers_of_a_width(self):
        for width in (4, 5):
            numbers = all_numbers(width)
            self.check_still(wire_with(width, numbers), "all", numbers, width)
            self.check_still(wire_with(width, numbers, numbers), "alarm", numbers, width)
            self.check_still(wire_with(width, numbers), "alarm", [], width)

    def test_no_thing_one_and_forty(self):
        for width in (6, 11, 12):
            for numbers in ([], ["0" * width], ["1" * width], ["10" * 6], all_numbers(width)[-40:]):
                numbers = [number[:width] for number in numbers]
                self.check_still(wire_with(width, numbers), "all", numbers, width)
                self.check_still(wire_with(width, all_numbers(width)[:20], []), "alarm", [], width)
        self.assertEqual(len(set(FORTY)), 40)
        self.check_still(wire_with(12, FORTY), "all", FORTY, 12)
        self.check_still(wire_with(12, FORTY, FORTY), "alarm", FORTY, 12)
        self.check_still(wire_with(12, FORTY, FORTY[::3]), "alarm", FORTY[::3], 12)


class Changes:
    """Things that come and go, drawn from a seed; what hung, and what hung all along."""

    def __init__(self, seed, width, kind):
        self.drawn = random.Random(seed)
        self.kind = kind
        self.numbers = all_numbers(width)
        self.wire = Wire(width)
        for number in self.drawn.sample(self.numbers, min(len(self.numbers) // 2 + 1, 12)):
            self.wire.hang(number)
            if self.drawn.random() < 0.6:
                self.wire.alarm(number)
        self.all_along = self.met_now()
        self.at_some_time = set(self.wire.hung())
        self.listening = []

    def met_now(self):
        return set(self.wire.hung() if self.kind == "all" else self.wire.alarms())

    def change(self):
        wire = self.wire
        for _ in range(self.drawn.choice((0, 0, 1, 1, 2, 6))):
            number = self.drawn.choice(self.numbers)
            if number not in wire.hung():
                if len(wire.hung()) < 40:
                    wire.hang(number)
                    if self.drawn.random() < 0.5:
                        wire.alarm(number)
            else:
                self.drawn.choice((wire.off, wire.alarm, wire.calm))(number)
            self.listening = [other for other in self.listening if other in wire.hung()]
            self.all_along &= self.met_now()
            self.at_some_time |= set(wire.hung())


class ChangingWireTest(unittest.TestCase):
    def check_step(self, changes, walk, said):
        """Do a step as the document says it, and tell what is said then, or None."""
        row, found, paper = walk.left(), walk.found(), walk.paper()
        looks = changes.wire.looks()
        if said is None:
            changes.listening = sorted(changes.met_now())
            said = row.pop()
        else:
            look = heard(changes.listening, said)
            paper.append((said, *look))
            looks += 1
            if look == (True, True):
                row.append(said + "1")
            said = None if look == (False, False) else said + ("0" if look[0] else "1")
        came = ("lost",) if said is None else None
        if said is not None and len(said) == len(changes.numbers[0]):
            found.append(said)
            came = ("found", said)
            said = None
        self.assertEqual(walk.step(), came)
        self.assertEqual(state(walk), (row, found, paper, said is not None))
        self.assertEqual(changes.wire.looks(), looks)
        return said

    def check_changing(self, seed, width, kind):
        changes = Changes(seed, width, kind)
        walk = Walk(changes.wire, kind)
        said, rounds = None, 0
        while walk.left() or walk.is_under_way():
            rounds += not walk.is_under_way()
            said = self.check_step(changes, walk, said)
            changes.change()
        found = walk.found()
        self.assertTrue(changes.all_along <= set(found))
        self.assertEqual(found, sorted(set(found)))
        self.assertTrue(set(found) <= changes.at_some_time)
        texts = [look[0] for look in walk.paper()]
        self.assertEqual(len(texts), len(set(texts)))
        self.assertLessEqual(rounds, max(1, len(changes.at_some_time)))
        return rounds > len(found)

    def test_whatever_comes_and_goes(self):
        lost = 0
        for width in (1, 2, 3, 4, 6, 12):
            for kind in ("all", "alarm"):
                for seed in range(60):
                    with self.subTest(seed=seed, width=width, kind=kind):
                        lost += self.check_changing(seed, width, kind)
        # Some rounds have to be lost, else little is tested here.
        self.assertGreater(lost, 50)

    def test_an_alarm_between_steps(self):
        wire = wire_with(2, ["00", "01", "11"], ["01", "11"])
        walk = Walk(wire, "alarm")
        walk.step()
        wire.calm("01")
        wire.alarm("00")
        # Calmed it listens still; an alarm given later is for the next round.
        self.assertEqual(walk.go_round(), ("found", "01"))
        wire.calm("11")
        self.assertEqual(walk.go_round(), ("lost",))
        self.assertEqual(walk.found(), ["01"])

    def test_a_new_wire_thing_ahead_is_found_and_behind_is_not(self):
        wire = wire_with(3, ["010", "100"])
        walk = Walk(wire, "all")
        self.assertEqual(walk.go_round(), ("found", "010"))
        wire.hang("000")
        wire.hang("111")
        self.assertEqual(walk.go_all(), ["010", "100", "111"])


if __name__ == "__main__":
    unittest.main()
