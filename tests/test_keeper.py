import random
import unittest

from busfind.keeper import Keeper
from busfind.numbers import met
from busfind.walks import Walk
from busfind.wire import Wire
from test_numbers import all_numbers
from test_walks import FORTY
from test_wire import wire_with


class RefreshTest(unittest.TestCase):
    def test_at_first_all_came(self):
        keeper = Keeper(wire_with(3, ["110", "010", "011"]))
        self.assertEqual(keeper.refresh(), (["010", "011", "110"], []))
        self.assertEqual(keeper.last(), ["010", "011", "110"])

    def test_on_an_empty_wire(self):
        wire = Wire(3)
        keeper = Keeper(wire)
        self.assertEqual([keeper.refresh(), keeper.refresh()], [([], []), ([], [])])
        self.assertEqual((keeper.last(), wire.looks()), ([], 2))

    def test_twice_with_nothing_done_between(self):
        for numbers in ([], ["010"], ["010", "011", "110"], all_numbers(3)):
            keeper = Keeper(wire_with(3, numbers))
            self.assertEqual(keeper.refresh(), (numbers, []))
            self.assertEqual([keeper.refresh(), keeper.refresh()], [([], []), ([], [])])
            self.assertEqual(keeper.last(), numbers)

    def test_who_came_and_who_went(self):
        wire = wire_with(3, ["000", "010", "101", "111"])
        keeper = Keeper(wire)
        keeper.refresh()
        for number in ("111", "000", "010"):
            wire.off(number)
        for number in ("110", "011", "001"):
            wire.hang(number)
        self.assertEqual(keeper.refresh(), (["001", "011", "110"], ["000", "010", "111"]))
        self.assertEqual(keeper.last(), ["001", "011", "101", "110"])
        self.assertEqual(keeper.refresh(), ([], []))

    def test_only_came_and_only_went(self):
        wire = wire_with(2, ["01"])
        keeper = Keeper(wire)
        keeper.refresh()
        wire.hang("00")
        self.assertEqual(keeper.refresh(), (["00"], []))
        wire.off("01")
        self.assertEqual(keeper.refresh(), ([], ["01"]))
        wire.off("00")
        self.assertEqual(keeper.refresh(), ([], ["00"]))
        self.assertEqual((keeper.refresh(), keeper.last()), (([], []), []))

    def test_it_is_since_the_last_time_alone(self):
        wire = wire_with(2, ["01"])
        keeper = Keeper(wire)
        keeper.refresh()
        wire.off("01")
        self.assertEqual(keeper.refresh(), ([], ["01"]))
        wire.hang("01")
        self.assertEqual(keeper.refresh(), (["01"], []))

    def test_gone_and_back_is_neither(self):
        wire = wire_with(2, ["01", "10"])
        keeper = Keeper(wire)
        keeper.refresh()
        wire.off("01")
        wire.hang("01")
        wire.hang("11")
        wire.off("11")
        self.assertEqual((keeper.refresh(), keeper.last()), (([], []), ["01", "10"]))

    def test_alarms_are_nothing_to_it(self):
        wire = wire_with(2, ["00", "01", "10"], ["01"])
        keeper = Keeper(wire)
        self.assertEqual(keeper.refresh(), (["00", "01", "10"], []))
        wire.alarm("10")
        wire.calm("01")
        self.assertEqual(keeper.refresh(), ([], []))
        self.assertEqual((wire.hung(), wire.alarms()), (["00", "01", "10"], ["10"]))

    def test_forty_and_all_numbers(self):
        for width, numbers in ((12, FORTY), (1, ["0", "1"]), (5, all_numbers(5))):
            wire = wire_with(width, numbers[::-1])
            keeper = Keeper(wire)
            self.assertEqual(keeper.refresh(), (sorted(numbers), []))
            self.assertEqual(wire.looks(), len(met(width, numbers)))
            for number in numbers[::2]:
                wire.off(number)
            self.assertEqual(keeper.refresh(), ([], sorted(numbers[::2])))
            self.assertEqual(keeper.last(), sorted(numbers[1::2]))

    def test_looks_of_each_time(self):
        wire = wire_with(3, ["010", "011", "110"])
        keeper = Keeper(wire)
        for many in (1, 2, 3):
            keeper.refresh()
            self.assertEqual(wire.looks(), many * len(met(3, ["010", "011", "110"])))

    def test_drawn_sets(self):
        drawn = random.Random(14)
        for width in (1, 2, 3, 4, 12):
            numbers = all_numbers(width)
            wire, before = Wire(width), []
            keeper = Keeper(wire)
            for _ in range(30):
                now = sorted(drawn.sample(numbers, drawn.randint(0, min(len(numbers), 12))))
                for number in before:
                    wire.off(number)
                for number in drawn.sample(now, len(now)):
                    wire.hang(number)
                came = [number for number in now if number not in before]
                went = [number for number in before if number not in now]
                self.assertEqual(keeper.refresh(), (came, went))
                self.assertEqual(keeper.last(), now)
                before = now


class LastTest(unittest.TestCase):
    def test_nobody_before_the_first_time(self):
        wire = wire_with(2, ["01", "10"])
        self.assertEqual((Keeper(wire).last(), wire.looks()), ([], 0))

    def test_it_tells_the_last_time_not_now(self):
        wire = wire_with(2, ["01", "10"])
        keeper = Keeper(wire)
        keeper.refresh()
        wire.off("01")
        wire.hang("11")
        looks = wire.looks()
        self.assertEqual([keeper.last(), keeper.last()], [["01", "10"]] * 2)
        self.assertEqual(wire.looks(), looks)
        keeper.refresh()
        self.assertEqual(keeper.last(), ["10", "11"])

    def test_what_is_told_may_be_changed(self):
        wire = wire_with(2, ["01", "10"])
        keeper = Keeper(wire)
        came, went = keeper.refresh()
        came.clear()
        went.append("00")
        keeper.last().clear()
        keeper.last().append("11")
        self.assertEqual(keeper.last(), ["01", "10"])
        wire.off("01")
        came, went = keeper.refresh()
        came.append("01")
        went.clear()
        self.assertEqual((keeper.refresh(), keeper.last()), (([], []), ["10"]))

    def test_what_was_told_stays_as_it_was(self):
        wire = wire_with(2, ["01", "10"])
        keeper = Keeper(wire)
        told, last = keeper.refresh(), keeper.last()
        wire.off("01")
        keeper.refresh()
        self.assertEqual((told, last), ((["01", "10"], []), ["01", "10"]))

    def test_kinds_of_values(self):
        keeper = Keeper(wire_with(2, ["01"]))
        for _ in range(2):
            told = keeper.refresh()
            self.assertEqual((type(told), [type(part) for part in told]), (tuple, [list, list]))
        self.assertEqual((type(keeper.last()), type(keeper.last()[0])), (list, str))


class ApartTest(unittest.TestCase):
    def test_making_a_keeper_takes_no_look_and_no_round(self):
        wire = wire_with(2, ["00", "10"])
        wire.begin("all")
        wire.say(1)
        Keeper(wire)
        self.assertEqual((wire.looks(), wire.look()), (0, (True, False)))

    def test_two_keepers_on_one_wire(self):
        wire = wire_with(2, ["00", "11"])
        one, other = Keeper(wire), Keeper(wire)
        one.refresh()
        wire.off("00")
        self.assertEqual((one.refresh(), other.refresh()), (([], ["00"]), (["11"], [])))
        self.assertEqual((one.last(), other.last()), (["11"], ["11"]))

    def test_beside_a_walk_between_its_rounds(self):
        wire = wire_with(2, ["00", "01", "11"])
        keeper, walk = Keeper(wire), Walk(wire, "all")
        self.assertEqual(walk.go_round(), ("found", "00"))
        self.assertEqual(keeper.refresh(), (["00", "01", "11"], []))
        self.assertEqual(walk.go_all(), ["00", "01", "11"])


if __name__ == "__main__":
    unittest.main()
