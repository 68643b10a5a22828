import itertools
import unittest

from busfind.errors import BadBit, BadKind, BadNumber, BadWidth, NoRound, NotThere, There
from busfind.wire import Wire
from test_numbers import BAD_NUMBERS, BAD_WIDTHS, GREAT, all_numbers

BAD_KINDS = ("", "All", "ALL", "all ", " all", "alarms", "al", "none", "0", "alarm\n", "allalarm")
BAD_BITS = (2, -1, 3, 10, 255, GREAT, -GREAT, True, False)


def wire_with(width, numbers, alarms=()):
    wire = Wire(width)
    for number in numbers:
        wire.hang(number)
    for number in alarms:
        wire.alarm(number)
    return wire


def say_all(wire, bits):
    for bit in bits:
        wire.say(int(bit))


def heard(numbers, said):
    nexts = [number[len(said)] for number in numbers if number.startswith(said)]
    return ("0" in nexts, "1" in nexts)


class HangingTest(unittest.TestCase):
    def test_widths(self):
        for width in range(1, 13):
            wire = Wire(width)
            wire.hang("0" * width)
            self.assertEqual(wire.hung(), ["0" * width])
        for width in BAD_WIDTHS:
            with self.assertRaises(BadWidth):
                Wire(width)

    def test_a_new_wire_is_empty(self):
        wire = Wire(4)
        self.assertEqual((wire.hung(), wire.alarms(), wire.looks()), ([], [], 0))

    def test_hang_and_off(self):
        wire = Wire(4)
        self.assertIsNone(wire.hang("0110"))
        wire.hang("0011")
        self.assertEqual(wire.hung(), ["0011", "0110"])
        self.assertIsNone(wire.off("0110"))
        self.assertEqual(wire.hung(), ["0011"])
        wire.off("0011")
        self.assertEqual(wire.hung(), [])

    def test_alarm_and_calm(self):
        wire = wire_with(4, ["0110", "0011", "1000"])
        self.assertEqual(wire.alarms(), [])
        self.assertIsNone(wire.alarm("0110"))
        wire.alarm("0011")
        self.assertEqual(wire.alarms(), ["0011", "0110"])
        self.assertIsNone(wire.calm("0110"))
        self.assertEqual(wire.alarms(), ["0011"])
        self.assertEqual(wire.hung(), ["0011", "0110", "1000"])

    def test_alarm_and_calm_twice(self):
        wire = wire_with(2, ["01", "10"])
        wire.alarm("01")
        wire.alarm("01")
        self.assertEqual(wire.alarms(), ["01"])
        wire.calm("01")
        self.assertEqual(wire.alarms(), [])
        wire.calm("01")
        wire.calm("10")
        self.assertEqual((wire.hung(), wire.alarms()), (["01", "10"], []))

    def test_both_lists_rise(self):
        numbers = all_numbers(3)
        for turn in (numbers, numbers[::-1], numbers[4:] + numbers[:4], numbers[::2] + numbers[1::2]):
            wire = wire_with(3, turn, turn)
            self.assertEqual(wire.hung(), numbers)
            self.assertEqual(wire.alarms(), numbers)

    def test_both_lists_may_be_changed(self):
        wire = wire_with(2, ["00", "01", "10"], ["00", "10"])
        for told in (wire.hung(), wire.alarms()):
            self.assertIs(type(told), list)
            told.append("11")
            del told[0]
        self.assertEqual((wire.hung(), wire.alarms()), (["00", "01", "10"], ["00", "10"]))
        wire.begin("all")
        wire.hung().clear()
        self.assertEqual(wire.look(), (True, True))
        wire.begin("alarm")
        wire.alarms().clear()
        self.assertEqual(wire.look(), (True, True))

    def test_there_for_one_that_hangs(self):
        wire = wire_with(2, ["01", "10"], ["10"])
        for number in ("01", "10"):
            with self.assertRaises(There):
                wire.hang(number)
        self.assertEqual((wire.hung(), wire.alarms()), (["01", "10"], ["10"]))

    def test_not_there_for_one_that_does_not(self):
        wire = wire_with(2, ["01", "10"], ["10"])
        wire.hang("11")
        wire.off("11")
        for number in ("00", "11"):
            for action in (wire.off, wire.alarm, wire.calm):
                with self.assertRaises(NotThere):
                    action(number)
        self.assertEqual((wire.hung(), wire.alarms()), (["01", "10"], ["10"]))

    def test_bad_numbers_ahead_of_both(self):
        wire = wire_with(4, ["0110", "0001"], ["0110"])
        for number in BAD_NUMBERS:
            for action in (wire.hang, wire.off, wire.alarm, wire.calm):
                with self.assertRaises(BadNumber):
                    action(number)
        self.assertEqual((wire.hung(), wire.alarms()), (["0001", "0110"], ["0110"]))

    def test_hung_again_without_an_alarm(self):
        wire = wire_with(2, ["01"], ["01"])
        wire.off("01")
        self.assertEqual(wire.alarms(), [])
        wire.hang("01")
        self.assertEqual((wire.hung(), wire.alarms()), (["01"], []))
        wire.begin("alarm")
        self.assertEqual(wire.look(), (False, False))

    def test_forty_and_more_at_once(self):
        numbers = all_numbers(12)[:50]
        wire = wire_with(12, numbers[:40])
        self.assertEqual(wire.hung(), numbers[:40])
        for number in numbers[40:]:
            wire.hang(number)
        for number in numbers:
            wire.alarm(number)
        self.assertEqual((wire.hung(), wire.alarms()), (numbers, numbers))

    def test_asked_again_the_same_is_told(self):
        wire = wire_with(3, ["010", "011", "110"], ["011"])
        wire.begin("all")
        for ask in (wire.hung, wire.alarms, wire.look):
            self.assertEqual([ask(), ask(), ask()], [ask()] * 3)
        self.assertEqual([wire.looks(), wire.looks()], [4, 4])


class RoundsTest(unittest.TestCase):
    def test_both_kinds(self):
        wire = wire_with(2, ["00", "11"], ["11"])
        self.assertIsNone(wire.begin("all"))
        self.assertEqual(wire.look(), (True, True))
        self.assertIsNone(wire.begin("alarm"))
        self.assertEqual(wire.look(), (False, True))

    def test_other_kinds_are_refused(self):
        wire = wire_with(3, ["010", "011"])
        for kind in BAD_KINDS:
            with self.assertRaises(BadKind):
                wire.begin(kind)
        with self.assertRaises(NoRound):
            wire.look()
        wire.begin("all")
        say_all(wire, "01")
        for kind in BAD_KINDS:
            with self.assertRaises(BadKind):
                wire.begin(kind)
        self.assertEqual(wire.look(), (True, True))

    def test_looks_of_each_kind(self):
        for numbers, told in (([], (False, False)), (["0"], (True, False)),
                              (["1"], (False, True)), (["0", "1"], (True, True))):
            wire = wire_with(1, numbers)
            wire.begin("all")
            look = wire.look()
            self.assertEqual(look, told)
            self.assertIs(type(look), tuple)
            self.assertEqual([type(truth) for truth in look], [bool, bool])
            wire.begin("alarm")
            self.assertEqual(wire.look(), (False, False))

    def test_bit_by_bit_to_the_last(self):
        numbers = all_numbers(3)
        for many in range(9):
            for some in itertools.combinations(numbers, many):
                self.check_all_beginnings(wire_with(3, some), "all", some)
                self.check_all_beginnings(wire_with(3, numbers, some), "alarm", some)

    def check_all_beginnings(self, wire, kind, listening):
        for bits in all_numbers(3):
            wire.begin(kind)
            for at in range(3):
                self.assertEqual(wire.look(), heard(listening, bits[:at]))
                self.assertIsNone(wire.say(int(bits[at])))
            with self.assertRaises(NoRound):
                wire.look()

    def test_twelve_bits(self):
        wire = wire_with(12, ["010101010101", "010101010100", "110000000000"])
        wire.begin("all")
        for at in range(11):
            expected = (True, True) if at == 0 else ("010101010101"[at] == "0", "010101010101"[at] == "1")
            self.assertEqual(wire.look(), expected)
            wire.say(int("010101010101"[at]))
        self.assertEqual(wire.look(), (True, True))
        wire.say(1)
        with self.assertRaises(NoRound):
            wire.say(1)

    def test_others_fall_silent_for_the_round(self):
        wire = wire_with(3, ["011", "101"])
        wire.begin("all")
        wire.say(0)
        self.assertEqual(wire.look(), (False, True))
        wire.say(0)
        self.assertEqual(wire.look(), (False, False))
        wire.begin("all")
        self.assertEqual(wire.look(), (True, True))

    def test_hung_later_is_silent_in_this_round(self):
        wire = wire_with(2, ["00"])
        wire.begin("all")
        wire.hang("11")
        self.assertEqual(wire.look(), (True, False))
        wire.say(1)
        wire.hang("10")
        self.assertEqual(wire.look(), (False, False))
        wire.begin("all")
        self.assertEqual(wire.look(), (True, True))

    def test_hung_later_with_an_alarm_is_silent(self):
        wire = wire_with(2, ["00"], ["00"])
        wire.begin("alarm")
        wire.hang("11")
        wire.alarm("11")
        self.assertEqual(wire.look(), (True, False))
        wire.begin("alarm")
        self.assertEqual(wire.look(), (True, True))

    def test_taken_off_listens_no_more(self):
        wire = wire_with(2, ["00", "10", "11"])
        wire.begin("all")
        wire.off("00")
        self.assertEqual(wire.look(), (False, True))
        wire.say(1)
        wire.off("10")
        self.assertEqual(wire.look(), (False, True))
        wire.off("11")
        self.assertEqual(wire.look(), (False, False))

    def test_hung_again_listens_no_more_in_this_round(self):
        for kind in ("all", "alarm"):
            wire = wire_with(2, ["00", "11"], ["00", "11"])
            wire.begin(kind)
            wire.off("00")
            wire.hang("00")
            wire.alarm("00")
            self.assertEqual(wire.look(), (False, True))
            wire.begin(kind)
            self.assertEqual(wire.look(), (True, True))

    def test_calmed_it_listens_still(self):
        for kind in ("all", "alarm"):
            wire = wire_with(2, ["00", "11"], ["00", "11"])
            wire.begin(kind)
            wire.calm("00")
            self.assertEqual(wire.look(), (True, True))
            wire.say(0)
            self.assertEqual(wire.look(), (True, False))
        wire.begin("alarm")
        self.assertEqual(wire.look(), (False, True))

    def test_an_alarm_given_later_does_not_listen(self):
        wire = wire_with(2, ["00", "11"], ["00"])
        wire.begin("alarm")
        wire.alarm("11")
        self.assertEqual(wire.look(), (True, False))
        wire.calm("00")
        wire.alarm("00")
        self.assertEqual(wire.look(), (True, False))
        wire.begin("alarm")
        self.assertEqual(wire.look(), (True, True))

    def test_an_alarm_changes_nothing_in_a_round_of_all(self):
        wire = wire_with(2, ["00", "11"])
        wire.begin("all")
        wire.alarm("11")
        self.assertEqual(wire.look(), (True, True))
        wire.calm("11")
        self.assertEqual(wire.look(), (True, True))

    def test_bad_bits(self):
        wire = wire_with(2, ["00", "11"])
        wire.begin("all")
        for bit in BAD_BITS:
            with self.assertRaises(BadBit):
                wire.say(bit)
        self.assertEqual(wire.look(), (True, True))
        wire.say(1)
        for bit in BAD_BITS:
            with self.assertRaises(BadBit):
                wire.say(bit)
        self.assertEqual(wire.look(), (False, True))

    def check_no_round(self, wire):
        with self.assertRaises(NoRound):
            wire.look()
        for bit in (0, 1) + BAD_BITS:
            with self.assertRaises(NoRound):
                wire.say(bit)

    def test_no_round_ahead_of_the_first(self):
        for width in (1, 4, 12):
            wire = Wire(width)
            self.check_no_round(wire)
            wire.hang("0" * width)
            self.check_no_round(wire)

    def test_no_round_behind_the_last_bit(self):
        for width in (1, 4, 12):
            for numbers in ([], ["0" * width], ["1" * width]):
                wire = wire_with(width, numbers)
                wire.begin("all")
                say_all(wire, "0" * width)
                self.check_no_round(wire)
                self.check_no_round(wire)
                self.assertEqual(wire.hung(), numbers)
                wire.begin("all")
                wire.look()

    def test_a_new_round_while_one_is_under_way(self):
        wire = wire_with(3, ["010", "111"], ["111"])
        wire.begin("all")
        say_all(wire, "01")
        wire.begin("all")
        self.assertEqual(wire.look(), (True, True))
        say_all(wire, "0")
        wire.begin("alarm")
        self.assertEqual(wire.look(), (False, True))
        say_all(wire, "11")
        self.assertEqual(wire.look(), (False, True))
        wire.say(1)
        self.check_no_round(wire)

    def test_looks_are_counted(self):
        wire = wire_with(2, ["01"])
        with self.assertRaises(NoRound):
            wire.look()
        self.assertEqual(wire.looks(), 0)
        wire.begin("all")
        self.assertEqual(wire.looks(), 0)
        wire.look()
        wire.look()
        self.assertEqual(wire.looks(), 2)
        say_all(wire, "01")
        with self.assertRaises(NoRound):
            wire.look()
        self.assertEqual(wire.looks(), 2)
        wire.begin("alarm")
        wire.look()
        self.assertEqual(wire.looks(), 3)

    def test_what_is_refused_changes_nothing(self):
        wire = wire_with(4, ["0110", "0111", "0000"], ["0111"])
        for kind, told in (("all", (True, True)), ("alarm", (False, True))):
            wire.begin(kind)
            say_all(wire, "011")
            before = wire.looks()
            for refusal, action, handed in (
                (There, wire.hang, "0110"), (There, wire.hang, "0111"), (BadNumber, wire.hang, "011"),
                (NotThere, wire.off, "1111"), (BadNumber, wire.off, "01100"),
                (NotThere, wire.alarm, "1111"), (BadNumber, wire.alarm, 110),
                (NotThere, wire.calm, "1111"), (BadNumber, wire.calm, ""),
                (BadKind, wire.begin, "some"), (BadBit, wire.say, 2), (BadBit, wire.say, True),
            ):
                with self.assertRaises(refusal):
                    action(handed)
            self.assertEqual(wire.looks(), before)
            self.assertEqual(wire.hung(), ["0000", "0110", "0111"])
            self.assertEqual(wire.alarms(), ["0111"])
            self.assertEqual(wire.look(), told)
            wire.say(1)
            self.check_no_round(wire)

    def test_two_wires_do_not_touch_each_other(self):
        one, other = Wire(2), Wire(3)
        one.hang("01")
        one.alarm("01")
        self.assertEqual((other.hung(), other.alarms()), ([], []))
        other.hang("110")
        one.begin("all")
        one.look()
        self.check_no_round(other)
        self.assertEqual((one.looks(), other.looks()), (1, 0))
        other.begin("alarm")
        self.assertEqual((one.look(), other.look()), ((True, False), (False, False)))
        other.say(1)
        self.assertEqual(one.look(), (True, False))
        one.off("01")
        self.assertEqual((one.hung(), other.hung()), ([], ["110"]))

    def test_two_wires_of_one_width(self):
        one, other = wire_with(2, ["01"]), wire_with(2, ["01", "10"])
        one.begin("all")
        other.begin("all")
        one.off("01")
        self.assertEqual((one.look(), other.look()), ((False, False), (True, True)))
        self.assertEqual(other.hung(), ["01", "10"])


if __name__ == "__main__":
    unittest.main()
