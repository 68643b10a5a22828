import itertools
import random
import unittest

from busfind.errors import BadLooks, BadRoster, BadWidth, TooMany
from busfind.rosters import judged, least
from test_numbers import BAD_WIDTHS, GREAT, all_numbers
from test_papers import ANSWERS, BAD_LOOKS, all_looks, all_sets, beginnings_of, looks_at
from test_wire import heard

EIGHT = ["000011110000", "000011110001", "001010101010", "010000000000",
         "011111111111", "100000000001", "110011001100", "111111111111"]
# For the width 4.
BAD_ROSTERS = (
    [], [""], ["011"], ["01100"], ["0120"], ["0110", "abcd"], [" 011"], ["0110\n"], ["01\u06611"],
    ["0110", "0110"], ["0000", "0110", "0110", "1111"], ["0110", "0011"], ["0000", "1111", "0110"],
    ["0000", "0001", "0"], ["", "0000"], ["0000", "0001", "1"], ["0000", "01", "1111"],
    all_numbers(4)[:9], all_numbers(4), all_numbers(4)[:8] * 2, all_numbers(4)[7::-1],
)


def sets_of(roster):
    return sorted(all_sets(roster))


def judged_by_trying(roster, looks):
    return [some for some in sets_of(roster) if all(heard(some, look[0]) == look[1:] for look in looks)]


class RosterTest(unittest.TestCase):
    def test_from_one_to_eight(self):
        for many in range(1, 9):
            self.assertEqual(judged(12, EIGHT[:many], []), sets_of(EIGHT[:many]))
        for width in range(1, 13):
            self.assertEqual(judged(width, ["1" * width], []), [[], ["1" * width]])
            self.assertEqual(least(width, ["1" * width], []), [""])

    def test_others_are_refused(self):
        for roster in BAD_ROSTERS:
            before = list(roster)
            with self.subTest(roster=roster):
                with self.assertRaises(BadRoster):
                    judged(4, roster, [])
                with self.assertRaises(BadRoster):
                    least(4, roster, roster[:1])
                with self.assertRaises(BadRoster):
                    least(4, roster, [])
            self.assertEqual(roster, before)

    def test_lengths_of_other_widths(self):
        for width in range(1, 13):
            for roster in (["0" * (width - 1)], ["0" * (width + 1)]):
                with self.assertRaises(BadRoster):
                    judged(width, roster, [])

    def test_bad_widths_come_first(self):
        for width in BAD_WIDTHS:
            for roster in ([], ["2"], ["1", "0"]):
                with self.assertRaises(BadWidth):
                    judged(width, roster, [("2", True, False)])
                with self.assertRaises(BadWidth):
                    least(width, roster, ["x"])

    def test_bad_rosters_come_ahead_of_bad_looks(self):
        for roster in BAD_ROSTERS:
            for looks in ([("0110", True, False)], [("", True)], [("", True, False)] * 101):
                with self.assertRaises(BadRoster):
                    judged(4, roster, looks)


class JudgedTest(unittest.TestCase):
    def test_examples(self):
        roster = ["001", "010", "110"]
        for looks, told in (
            ([], [[], ["001"], ["001", "010"], ["001", "010", "110"], ["001", "110"], ["010"], ["010", "110"],
                  ["110"]]),
            ([("", False, False)], [[]]),
            ([("", True, True)], [["001", "010", "110"], ["001", "110"], ["010", "110"]]),
            ([("0", True, True)], [["001", "010"], ["001", "010", "110"]]),
            ([("0", True, True), ("", True, False)], [["001", "010"]]),
            ([("1", True, False)], []),
            ([("1", True, True)], []),
            ([("10", False, False), ("1", False, True)], [["001", "010", "110"], ["001", "110"], ["010", "110"],
                                                          ["110"]]),
            ([("", True, False), ("", False, True)], []),
            ([("", False, True), ("", False, True)], [["110"]]),
        ):
            self.assertEqual(judged(3, roster, looks), told)
            self.assertEqual(judged(3, roster, looks[::-1]), told)

    def test_all_rosters_of_small_widths(self):
        for width in (1, 2):
            for roster in all_sets(all_numbers(width))[1:]:
                for many in range(3):
                    for looks in itertools.product(all_looks(width), repeat=many):
                        self.assertEqual(judged(width, roster, list(looks)), judged_by_trying(roster, looks))

    def test_many_rosters_of_greater_widths(self):
        drawn = random.Random(9)
        lengths = set()
        for _ in range(300):
            width = drawn.choice((3, 4, 12))
            numbers = EIGHT if width == 12 else all_numbers(width)
            roster = sorted(drawn.sample(numbers, drawn.randint(1, 8)))
            hung = [number for number in roster if drawn.random() < 0.5]
            texts = [drawn.choice(roster)[:drawn.randrange(width)] for _ in range(drawn.randint(1, 6))]
            looks = looks_at(texts, hung)
            if drawn.random() < 0.3:
                looks.append((drawn.choice(texts), *drawn.choice(ANSWERS)))
            told = judged(width, roster, looks)
            lengths.add(min(len(told), 2))
            self.assertEqual(told, judged_by_trying(roster, looks))
            self.assertEqual(told, sorted(told))
            for some in told:
                self.assertEqual(some, sorted(set(some)))
        self.assertEqual(lengths, {0, 1, 2})

    def test_bad_looks(self):
        good = ("011", True, False)
        for look in BAD_LOOKS:
            with self.subTest("great" if GREAT in look else repr(look)):
                for number, looks in ((0, [look, good]), (2, [good, good, look, look])):
                    with self.assertRaises(BadLooks) as caught:
                        judged(4, ["0110", "1111"], looks)
                    self.assertEqual(caught.exception.number, number)
        for number, looks in ((100, [good] * 101), (100, [good] * 100 + [()]), (99, [good] * 99 + [(), good]),
                              (0, [("", 1, 0)] + [good] * 100)):
            with self.assertRaises(BadLooks) as caught:
                judged(4, ["0110"], looks)
            self.assertEqual(caught.exception.number, number)

    def test_a_hundred_looks(self):
        self.assertEqual(judged(4, ["0110", "1111"], [("", True, False)] * 100), [["0110"]])

    def test_what_is_handed_in_and_what_is_told(self):
        roster, looks = ["001", "010"], [("0", True, False)]
        told = judged(3, roster, [])
        self.assertEqual([type(told)] + [type(row) for row in told], [list] * 5)
        for row in told:
            row.append("x")
        told.clear()
        self.assertEqual(judged(3, roster, looks), [["001"]])
        self.assertEqual(judged(3, roster, looks), [["001"]])
        self.assertEqual((roster, looks), (["001", "010"], [("0", True, False)]))
        told = judged(3, roster, [])
        roster.clear()
        self.assertEqual(told, [[], ["001"], ["001", "010"], ["010"]])

    def test_no_two_told_sets_are_one_list(self):
        told = judged(3, ["001", "010"], [])
        told[0].append("x")
        self.assertEqual(told, [["x"], ["001"], ["001", "010"], ["010"]])


def parts_of(beginnings, sets, hung):
    looks = [heard(hung, text) for text in beginnings]
    return [some for some in sets if [heard(some, text) for text in beginnings] == looks]


class LeastTest(unittest.TestCase):
    def check_by_trying(self, width, roster):
        """Try all lists of beginnings, of none of the roster, too."""
        sets = sets_of(roster)
        beginnings = beginnings_of(width)
        seen = {text: [heard(some, text) for some in sets] for text in beginnings}
        wanted = {}
        for many in range(len(beginnings) + 1):
            for some in itertools.combinations(beginnings, many):
                rows = list(zip(*[seen[text] for text in some])) or [()] * len(sets)
                for hung, row in zip(sets, rows):
                    if tuple(hung) not in wanted and rows.count(row) == 1:
                        wanted[tuple(hung)] = list(some)
            if len(wanted) == len(sets):
                break
        for hung in sets:
            self.assertEqual(least(width, roster, hung), wanted[tuple(hung)], (roster, hung))

    def test_examples(self):
        for width, roster, hung, told in (
            (1, ["0"], [], [""]), (1, ["0", "1"], ["0"], [""]), (2, ["00", "01"], [], [""]),
            (2, ["00", "01"], ["00", "01"], ["0"]), (2, ["00", "11"], ["00"], [""]),
            (3, ["000", "001", "110"], ["110"], [""]),
            (3, ["000", "001", "110"], ["000", "110"], ["", "00"]),
            (3, ["000", "001", "110"], ["000"], ["", "00"]),
            (3, ["000", "011", "110", "111"], ["011", "111"], ["0", "11"]),
            (12, ["000000000000", "000000000001"], [], [""]),
            (12, ["000000000000", "000000000001"], ["000000000001"], ["00000000000"]),
            (12, ["010101010101"], ["010101010101"], [""]),
        ):
            self.assertEqual(least(width, roster, hung), told)

    def test_all_rosters_of_small_widths(self):
        for width in (1, 2):
            for roster in all_sets(all_numbers(width))[1:]:
                self.check_by_trying(width, roster)

    def test_rosters_of_width_three(self):
        for roster in all_sets(all_numbers(3))[1:]:
            if len(roster) <= 3 or roster[0] == "000" and len(roster) <= 6:
                self.check_by_trying(3, roster)

    def test_rosters_of_width_four(self):
        for roster in (["0000", "0110", "0111"], ["0001", "0010", "1100", "1111"], ["0101", "1000", "1001"]):
            self.check_by_trying(4, roster)

    def test_six_of_a_great_width(self):
        for roster in (EIGHT[:6], EIGHT[2:], all_numbers(12)[:6], all_numbers(12)[-6:], all_numbers(12)[::700]):
            self.assertEqual(len(roster), 6)
            sets = sets_of(roster)
            for hung in sets[::5] + [roster]:
                told = least(12, roster, hung)
                self.assertEqual(told, sorted(set(told)))
                self.assertEqual(parts_of(told, sets, hung), [hung])
                self.assertEqual(judged(12, roster, looks_at(told, hung)), [hung])
                for at in range(len(told)):
                    self.assertGreater(len(parts_of(told[:at] + told[at + 1:], sets, hung)), 1)

    def test_none_hung_and_all_hung(self):
        for width, roster in ((3, ["000", "011", "101", "110"]), (12, EIGHT[:6])):
            self.assertEqual(least(width, roster, []), [""])
        self.assertEqual(least(3, ["000", "011", "101", "110"], ["000", "011", "101", "110"]), ["0", "1"])
        self.assertEqual(least(3, ["000", "001", "010"], ["000", "001", "010"]), ["0", "00"])

    def test_bad_hung(self):
        roster = ["0000", "0011", "0110", "1111"]
        for hung in (["0011", "0000"], ["0011", "0011"], ["0000", "1111", "0110"], ["0001"], ["0000", "0001"],
                     ["0001", "1111"], roster + ["1111"], roster[::-1], ["011"], [""], ["", "0011"], ["01100"],
                     ["0011\n"], ["abcd"], ["0110", "0111", "1111"], ["0000", "0011", "0110", "1110", "1111"]):
            before = list(hung)
            with self.subTest(hung=hung):
                with self.assertRaises(BadRoster):
                    least(4, roster, hung)
            self.assertEqual((hung, roster), (before, ["0000", "0011", "0110", "1111"]))

    def test_too_many(self):
        for many in (7, 8):
            roster = EIGHT[:many]
            for hung in ([], roster, roster[2:4]):
                with self.assertRaises(TooMany):
                    least(12, roster, hung)
                self.assertEqual(len(judged(12, roster, [])), 2 ** many)
        least(12, EIGHT[:6], EIGHT[:6])

    def test_too_many_comes_behind_all_else(self):
        for hung in (EIGHT[1::-1], EIGHT[:1] * 2, ["0" * 12], ["0"], EIGHT[:7] + ["x"]):
            with self.assertRaises(BadRoster):
                least(12, EIGHT[:7], hung)
        for roster in (EIGHT[:7] + EIGHT[:1], EIGHT[6::-1], EIGHT + ["111111111111"], all_numbers(12)[:9]):
            with self.assertRaises(BadRoster):
                least(12, roster, [])
        for width in BAD_WIDTHS:
            with self.assertRaises(BadWidth):
                least(width, EIGHT, [])

    def test_what_is_handed_in_and_what_is_told(self):
        roster, hung = ["000", "001", "110"], ["000", "110"]
        told = least(3, roster, hung)
        self.assertIs(type(told), list)
        self.assertEqual((roster, hung), (["000", "001", "110"], ["000", "110"]))
        told.clear()
        self.assertEqual([least(3, roster, hung), least(3, roster, hung)], [["", "00"]] * 2)
        told = least(3, roster, roster)
        roster.clear()
        self.assertEqual(told, ["", "00"])


if __name__ == "__main__":
    unittest.main()
