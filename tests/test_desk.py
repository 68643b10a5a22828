import itertools
import random
import unittest

from busfind.desk import Desk
from busfind.numbers import met
from busfind.walks import Walk
from busfind.wire import Wire
from test_numbers import all_numbers
from test_walks import FORTY
from test_wire import wire_with


def found(numbers):
    return [("found", number) for number in numbers]


def turns(desk, many):
    return [desk.turn() for _ in range(many)]


class TurnTest(unittest.TestCase):
    def test_without_alarms_all_are_found_rising(self):
        numbers = ["010", "011", "110"]
        desk = Desk(wire_with(3, numbers[::-1]))
        self.assertEqual(turns(desk, 5), found(numbers) + [("done",)] * 2)

    def test_where_nothing_hangs(self):
        wire = Wire(4)
        desk = Desk(wire)
        self.assertEqual(turns(desk, 3), [("lost",), ("done",), ("done",)])
        # One look of each turn is that of its round for alarms.
        self.assertEqual(wire.looks(), 4)

    def test_alarms_come_first_rising(self):
        wire = wire_with(3, ["010", "011", "110", "111"], ["111", "011"])
        desk = Desk(wire)
        self.assertEqual(desk.turn(), ("alarm", "011"))
        self.assertEqual(wire.alarms(), ["111"])
        self.assertEqual(desk.turn(), ("alarm", "111"))
        self.assertEqual(wire.alarms(), [])
        self.assertEqual(turns(desk, 5), found(["010", "011", "110", "111"]) + [("done",)])

    def test_the_same_thing_with_an_alarm_again(self):
        wire = wire_with(2, ["01", "10"], ["10"])
        desk = Desk(wire)
        for _ in range(3):
            self.assertEqual(desk.turn(), ("alarm", "10"))
            self.assertEqual(wire.alarms(), [])
            wire.alarm("10")
        wire.calm("10")
        self.assertEqual(turns(desk, 3), found(["01", "10"]) + [("done",)])

    def test_a_lesser_alarm_between_comes_ahead(self):
        wire = wire_with(3, ["001", "010", "100"], ["010", "100"])
        desk = Desk(wire)
        self.assertEqual(desk.turn(), ("alarm", "010"))
        wire.alarm("001")
        self.assertEqual(turns(desk, 2), [("alarm", "001"), ("alarm", "100")])

    def test_an_alarm_in_the_midst_of_the_walk(self):
        wire = wire_with(3, ["001", "010", "100"])
        desk = Desk(wire)
        self.assertEqual(desk.turn(), ("found", "001"))
        wire.alarm("001")
        wire.alarm("100")
        self.assertEqual(turns(desk, 2), [("alarm", "001"), ("alarm", "100")])
        # The walk goes on where it stood: none is found twice, none is left out.
        self.assertEqual(turns(desk, 3), found(["010", "100"]) + [("done",)])

    def test_an_alarm_behind_the_end(self):
        for numbers in ([], ["01"], ["01", "11"]):
            wire = wire_with(2, numbers)
            desk = Desk(wire)
            turns(desk, max(1, len(numbers)))
            self.assertEqual(desk.turn(), ("done",))
            wire.hang("10")
            self.assertEqual(desk.turn(), ("done",))
            wire.alarm("10")
            self.assertEqual(turns(desk, 3), [("alarm", "10"), ("done",), ("done",)])
            self.assertEqual((wire.hung(), wire.alarms()), (sorted([*numbers, "10"]), []))

    def test_calmed_or_taken_off_before_its_turn(self):
        wire = wire_with(2, ["00", "01", "10"], ["00", "01", "10"])
        desk = Desk(wire)
        wire.calm("00")
        wire.off("01")
        self.assertEqual(turns(desk, 4), [("alarm", "10")] + found(["00", "10"]) + [("done",)])

    def test_a_lost_round_of_the_walk_is_told(self):
        wire = wire_with(2, ["00", "10"])
        desk = Desk(wire)
        self.assertEqual(desk.turn(), ("found", "00"))
        wire.off("10")
        self.assertEqual(turns(desk, 2), [("lost",), ("done",)])

    def test_forty_and_all_numbers(self):
        for width, numbers, alarms in ((12, FORTY, FORTY[::3]), (12, FORTY, FORTY), (12, FORTY, []),
                                       (1, ["0", "1"], ["1"]), (5, all_numbers(5), all_numbers(5)[5:25])):
            desk = Desk(wire_with(width, numbers, alarms))
            told = [("alarm", number) for number in sorted(alarms)] + found(sorted(numbers)) + [("done",)]
            self.assertEqual(turns(desk, len(told)), told)

    def test_all_sets_of_small_widths(self):
        for width in (1, 2):
            for marks in itertools.product(("no", "hung", "alarm"), repeat=2 ** width):
                pairs = list(zip(all_numbers(width), marks))
                hung = [number for number, mark in pairs if mark != "no"]
                alarms = [number for number, mark in pairs if mark == "alarm"]
                desk = Desk(wire_with(width, hung, alarms))
                told = [("alarm", number) for number in alarms] + (found(hung) or [("lost",)]) + [("done",)]
                self.assertEqual(turns(desk, len(told)), told)


class LooksTest(unittest.TestCase):
    def looks_of(self, wire, desk):
        before = wire.looks()
        desk.turn()
        return wire.looks() - before

    def test_making_a_desk_takes_no_look_and_no_round(self):
        wire = wire_with(2, ["00", "10"], ["10"])
        wire.begin("all")
        wire.say(1)
        Desk(wire)
        self.assertEqual((wire.looks(), wire.hung(), wire.alarms()), (0, ["00", "10"], ["10"]))
        self.assertEqual(wire.look(), (True, False))

    def test_looks_of_each_turn(self):
        wire = wire_with(3, ["010", "011", "110"], ["110"])
        desk = Desk(wire)
        # An alarm that is found takes a look for each bit, and the walk none.
        self.assertEqual(self.looks_of(wire, desk), 3)
        # One for the alarms, and then "", "0", "01".
        self.assertEqual(self.looks_of(wire, desk), 4)
        # "011" is a whole number in the walk's row, so it takes none.
        self.assertEqual(self.looks_of(wire, desk), 1)
        self.assertEqual(self.looks_of(wire, desk), 3)
        self.assertEqual([self.looks_of(wire, desk) for _ in range(3)], [1, 1, 1])

    def test_looks_for_several_alarms(self):
        wire = wire_with(3, ["010", "011", "110"], ["010", "011", "110"])
        desk = Desk(wire)
        # Each turn has a new walk for alarms, which knows nothing of the elder.
        self.assertEqual([self.looks_of(wire, desk) for _ in range(3)], [3, 3, 3])

    def test_looks_altogether(self):
        for numbers in ([], ["0101"], ["0000", "1111"], all_numbers(4)):
            wire = wire_with(4, numbers)
            many = max(1, len(numbers))
            turns(Desk(wire), many)
            self.assertEqual(wire.looks(), len(met(4, numbers)) + many)


class ApartTest(unittest.TestCase):
    def test_two_desks_on_one_wire(self):
        wire = wire_with(2, ["00", "11"], ["11"])
        one, other = Desk(wire), Desk(wire)
        self.assertEqual([one.turn(), other.turn(), other.turn()], [("alarm", "11"), *found(["00", "11"])])
        self.assertEqual([other.turn(), one.turn(), one.turn()], [("done",), *found(["00", "11"])])

    def test_desks_on_two_wires(self):
        first, second = wire_with(2, ["00"], ["00"]), wire_with(3, ["111"])
        one, other = Desk(first), Desk(second)
        self.assertEqual((one.turn(), other.turn()), (("alarm", "00"), ("found", "111")))
        self.assertEqual((one.turn(), other.turn()), (("found", "00"), ("done",)))

    def test_beside_a_walk_between_its_rounds(self):
        wire = wire_with(2, ["00", "01", "11"], ["11"])
        desk, walk = Desk(wire), Walk(wire, "all")
        self.assertEqual((walk.go_round(), desk.turn()), (("found", "00"), ("alarm", "11")))
        self.assertEqual((walk.go_round(), desk.turn()), (("found", "01"), ("found", "00")))
        self.assertEqual((walk.go_round(), desk.turn()), (("found", "11"), ("found", "01")))

    def test_kinds_of_values(self):
        wire = wire_with(2, ["00"], ["00"])
        desk = Desk(wire)
        for told, many in ((desk.turn(), 2), (desk.turn(), 2), (desk.turn(), 1)):
            self.assertEqual((type(told), [type(part) for part in told]), (tuple, [str] * many))


class ChangingTest(unittest.TestCase):
    """Things come and go, and get alarms, between the turns."""

    def change(self, drawn, wire, numbers):
        for _ in range(drawn.choice((0, 1, 1, 2))):
            number = drawn.choice(numbers)
            if number not in wire.hung():
                wire.hang(number)
            else:
                drawn.choice((wire.off, wire.alarm, wire.alarm, wire.calm))(number)

    def check(self, seed, width):
        drawn = random.Random(seed)
        numbers = all_numbers(width)
        wire = wire_with(width, drawn.sample(numbers, len(numbers) // 2))
        desk = Desk(wire)
        all_along, at_some_time, times = set(wire.hung()), set(wire.hung()), []
        for _ in range(60):
            hung, alarms = wire.hung(), wire.alarms()
            told = desk.turn()
            self.assertEqual(wire.hung(), hung)
            if alarms:
                self.assertEqual(told, ("alarm", alarms[0]))
                self.assertEqual(wire.alarms(), alarms[1:])
            else:
                self.assertEqual(wire.alarms(), [])
                self.assertIn(told[0], ("found", "lost", "done"))
            if told[0] == "found":
                times.append(told[1])
            self.change(drawn, wire, numbers)
            all_along &= set(wire.hung())
            at_some_time |= set(wire.hung())
        while told != ("done",):
            told = desk.turn()
            times += [told[1]] if told[0] == "found" else []
        self.assertEqual(times, sorted(set(times)))
        # A whole number in the walk's row is found without a look, gone or not.
        self.assertTrue(all_along <= set(times) <= at_some_time)

    def test_whatever_comes_and_goes(self):
        for width in (1, 2, 3, 5):
            for seed in range(40):
                with self.subTest(width=width, seed=seed):
                    self.check(seed, width)


if __name__ == "__main__":
    unittest.main()
