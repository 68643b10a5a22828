import collections
import itertools
import random
import unittest

from busfind.errors import BadLooks, BadNumber, BadWidth
from busfind.numbers import met
from busfind.papers import fewest, shown
from busfind.walks import Walk
from test_numbers import BAD_NUMBERS, BAD_WIDTHS, GREAT, all_numbers
from test_walks import FORTY
from test_wire import heard, wire_with

ANSWERS = ((False, False), (False, True), (True, False), (True, True))
# For the width 4.
BAD_LOOKS = (
    ("0110", True, False), ("01101", True, False), ("0" * 50, True, False),
    ("2", True, False), ("01a", True, False), (" ", True, False), ("01\n", True, False), ("0\u0661", True, False),
    (0, True, False), (1, True, False), (10, True, False), (GREAT, True, False), (True, True, False),
    ("", 0, False), ("", 1, False), ("", True, 0), ("", True, 1), ("", 0, 1), ("0", 2, True), ("0", True, -1),
    ("", "0", True), ("", True, "1"), ("", "True", "False"), ("", "", ""), ("", True, GREAT),
    (), ("",), ("01",), (True,), ("", True), (True, False), ("", True, False, True), ("", True, False, ""),
    ("01", "10", True, False), (True, False, ""), (True, "", False), (1, 2, 3),
)


def all_sets(numbers):
    return [list(some) for many in range(len(numbers) + 1) for some in itertools.combinations(numbers, many)]


def beginnings_of(width):
    return sorted(text for length in range(width) for text in (all_numbers(length) if length else [""]))


def all_looks(width):
    return [(text, *answer) for text in beginnings_of(width) for answer in ANSWERS]


def looks_at(beginnings, numbers):
    return [(text, *heard(numbers, text)) for text in beginnings]


def told_by_trying(sets, looks):
    fitting = [some for some in sets if all(heard(some, look[0]) == look[1:] for look in looks)]
    if not fitting:
        return ("none",)
    return ("one", fitting[0]) if len(fitting) == 1 else ("more",)


class ShownTest(unittest.TestCase):
    def check(self, width, looks, told):
        self.assertEqual(shown(width, looks), told, looks)

    def test_of_no_looks(self):
        for width in range(1, 13):
            self.check(width, [], ("more",))

    def test_examples(self):
        for looks, told in (
            ([("", False, False)], ("one", [])),
            ([("", True, False)], ("more",)),
            ([("", True, True), ("0", True, True)], ("more",)),
            ([("0", True, True), ("1", True, True)], ("one", ["00", "01", "10", "11"])),
            ([("0", False, True), ("1", False, False)], ("one", ["01"])),
            ([("", True, False), ("0", False, True)], ("one", ["01"])),
            ([("", True, False), ("0", False, False)], ("none",)),
            ([("", True, False), ("1", True, False)], ("none",)),
            ([("", False, True), ("0", True, False)], ("none",)),
            ([("", True, False), ("1", False, False)], ("more",)),
            ([("", True, False), ("", True, False)], ("more",)),
            ([("", False, False), ("", False, False)], ("one", [])),
            ([("", True, False), ("", False, True)], ("none",)),
            ([("", False, False), ("0", False, False), ("1", False, False)], ("one", [])),
        ):
            self.check(2, looks, told)
            self.check(2, looks[::-1], told)

    def test_width_one(self):
        for answer, told in zip(ANSWERS, ([], ["1"], ["0"], ["0", "1"])):
            self.check(1, [("", *answer)], ("one", told))
            self.check(1, [("", *answer)] * 3, ("one", told))
            for other in ANSWERS:
                if other != answer:
                    self.check(1, [("", *answer), ("", *other)], ("none",))

    def test_all_lists_of_three_looks_at_width_two(self):
        sets = all_sets(all_numbers(2))
        for many in range(4):
            for looks in itertools.product(all_looks(2), repeat=many):
                self.check(2, list(looks), told_by_trying(sets, looks))

    def test_many_lists_at_width_three(self):
        sets = all_sets(all_numbers(3))
        drawn = random.Random(8)
        kinds = set()
        for _ in range(1500):
            hung = drawn.choice(sets)
            texts = drawn.sample(beginnings_of(3), drawn.randint(1, 7)) + drawn.choices(beginnings_of(3), k=2)
            looks = looks_at(texts, hung)
            if drawn.random() < 0.3:
                at = drawn.randrange(len(looks))
                looks[at] = (looks[at][0], *drawn.choice(ANSWERS))
            told = told_by_trying(sets, looks)
            kinds.add(told[0])
            self.check(3, looks, told)
            drawn.shuffle(looks)
            self.check(3, looks, told)
        self.assertEqual(kinds, {"none", "one", "more"})

    def test_the_same_look_twice(self):
        looks = looks_at(fewest(4, ["0110", "0111"]), ["0110", "0111"])
        self.check(4, looks + looks, ("one", ["0110", "0111"]))
        self.check(4, (looks[:-1] * 2), ("more",))

    def test_looks_that_tell_otherwise(self):
        paper = looks_at(met(4, ["0110", "1000"]), ["0110", "1000"])
        for at, (text, zero, one) in enumerate(paper):
            for answer in ANSWERS:
                told = ("one", ["0110", "1000"]) if answer == (zero, one) else ("none",)
                self.check(4, paper + [(text, *answer)], told)
                self.check(4, [(text, *answer)] + paper, told)

    def test_beginnings_with_which_no_number_goes_on(self):
        paper = looks_at(met(4, ["0110"]), ["0110"])
        for text in set(beginnings_of(4)) - set(met(4, ["0110"])):
            self.check(4, paper + [(text, False, False)], ("one", ["0110"]))
            for answer in ANSWERS[1:]:
                self.check(4, [(text, *answer)] + paper, ("none",))

    def test_looks_behind_alone_show_what_is_ahead(self):
        for width in (2, 3, 4, 5):
            texts = all_numbers(width - 1)
            for hung in ([], ["0" * width], all_numbers(width), all_numbers(width)[::3]):
                looks = looks_at(texts, hung)
                self.check(width, looks, ("one", hung))
                self.check(width, looks[:-1], ("more",))
                self.check(width, looks + [("", not heard(hung, "")[0], heard(hung, "")[1])], ("none",))

    def test_great_widths(self):
        looks = looks_at(met(12, FORTY[:12]), FORTY[:12])
        self.assertGreater(len(looks), 90)
        self.check(12, looks, ("one", FORTY[:12]))
        for at, look in enumerate(looks):
            is_needed = look[1:] != (True, True) or len(look[0]) == 11
            self.check(12, looks[:at] + looks[at + 1:], ("more",) if is_needed else ("one", FORTY[:12]))
            told = ("none",) if look[1] else ("more",)
            if len(look[0]) == 11 and look[2]:
                told = ("one", sorted(set(FORTY[:12]) ^ {look[0] + "0"}))
            self.check(12, looks[:at] + [(look[0], not look[1], look[2])] + looks[at + 1:], told)
        for numbers in ([], ["010101010101"], ["000000000000", "000000000001", "111111111111"], FORTY[:4]):
            looks = looks_at(met(12, numbers), numbers)
            self.check(12, looks, ("one", numbers))
            self.check(12, looks[::-1], ("one", numbers))
            self.check(12, looks[:-1], ("more",))
            self.check(12, looks + [("1" * 11, False, "1" * 12 not in numbers)], ("none",))
        self.check(12, [("0" * 11, True, True)], ("more",))
        self.check(12, [("0" * 11, True, True), ("0" * 5, False, True)], ("none",))
        self.check(12, [("", False, True), ("0" * 11, True, True)], ("none",))
        self.check(12, [("", False, True), ("0" * 11, False, False)], ("more",))
        self.check(12, [("", False, False), ("01" * 5, False, False)], ("one", []))
        self.check(12, [("", False, False), ("01" * 5, False, True)], ("none",))

    def test_more_than_hang_on_a_wire_at_once(self):
        texts = all_numbers(6)
        self.check(7, looks_at(texts, all_numbers(7)), ("one", all_numbers(7)))

    def test_a_hundred_looks(self):
        self.check(4, [("", False, False)] * 100, ("one", []))
        self.check(8, [(text, True, False) for text in all_numbers(7)[:100]], ("more",))
        number = "0110" * 3
        paper = looks_at(met(12, [number]), [number])
        self.check(12, (paper * 9)[:100], ("one", [number]))

    def test_kinds_of_values(self):
        for looks in ([], [("", False, False)], [("", False, False), ("0", True, False)]):
            self.assertIs(type(shown(3, looks)), tuple)
        self.assertIs(type(shown(3, [("", False, False)])[1]), list)

    def test_what_is_handed_in_and_what_is_told(self):
        looks = looks_at(met(3, ["010", "110"]), ["110", "010"])
        before = list(looks)
        told = shown(3, looks)
        self.assertEqual(looks, before)
        told[1].append("x")
        self.assertEqual(shown(3, looks), ("one", ["010", "110"]))
        again = shown(3, looks)
        looks.clear()
        self.assertEqual(again, ("one", ["010", "110"]))


class BadLooksTest(unittest.TestCase):
    def check(self, number, looks, width=4):
        before = list(looks)
        with self.assertRaises(BadLooks) as caught:
            shown(width, looks)
        self.assertEqual(caught.exception.number, number)
        self.assertIs(type(caught.exception.number), int)
        self.assertEqual(looks, before)

    def test_looks_that_cannot_be(self):
        good = ("011", True, False)
        for look in BAD_LOOKS:
            with self.subTest("great" if GREAT in look else repr(look)):
                self.check(0, [look])
                self.check(0, [look, good])
                self.check(2, [good, good, look, good, look])

    def test_the_first_is_told_also_behind_a_contradiction(self):
        self.check(2, [("", True, False), ("", False, True), ("0000", True, True)])

    def test_beginnings_of_each_length(self):
        for width in range(1, 13):
            self.assertEqual(shown(width, [("0" * (width - 1), False, False)] * 2)[0], "one" if width == 1 else "more")
            self.check(0, [("0" * width, False, False)], width)
            self.check(0, [("0" * (width + 1), False, False)], width)

    def test_a_hundred_and_first(self):
        good = ("", True, False)
        self.check(100, [good] * 101)
        self.check(100, [good] * 250)
        self.check(100, [good] * 100 + [("2", True, False)])
        self.check(99, [good] * 99 + [("2", True, False), good])
        self.check(0, [("", 1, 0)] + [good] * 150)
        self.check(57, [good] * 57 + [("0", True)] + [good] * 60)

    def test_bad_widths_come_first(self):
        for width in BAD_WIDTHS:
            for looks in ([], [("2", True, False)], [("", True)] * 101):
                with self.assertRaises(BadWidth):
                    shown(width, looks)


class FewestTest(unittest.TestCase):
    def test_examples(self):
        for width, numbers, told in (
            (1, [], [""]), (1, ["0"], [""]), (1, ["0", "1"], [""]),
            (2, [], [""]), (2, ["01"], ["", "0"]), (2, ["00", "11"], ["0", "1"]),
            (2, ["00", "01", "10", "11"], ["0", "1"]), (2, ["10", "11"], ["", "1"]),
            (3, ["010", "110"], ["0", "01", "1", "11"]),
            (3, ["000", "010", "111"], ["00", "01", "1", "11"]),
            (4, ["0110"], ["", "0", "01", "011"]),
            (12, [], [""]),
            (12, ["010101010101"], ["010101010101"[:at] for at in range(12)]),
        ):
            self.assertEqual(fewest(width, numbers), told)

    def test_against_trying_all_lists(self):
        for width in (1, 2, 3):
            sets = all_sets(all_numbers(width))
            seen = {text: [heard(some, text) for some in sets] for text in beginnings_of(width)}
            wanted = {}
            for beginnings in sorted(all_sets(beginnings_of(width)), key=lambda row: (len(row), row)):
                rows = list(zip(*[seen[text] for text in beginnings])) or [()] * len(sets)
                counts = collections.Counter(rows)
                for some, row in zip(sets, rows):
                    if counts[row] == 1:
                        wanted.setdefault(tuple(some), beginnings)
            for some in sets:
                self.assertEqual(fewest(width, some), wanted[tuple(some)])

    def test_in_any_turn_and_twice(self):
        numbers = ["000", "011", "100", "101"]
        told = fewest(3, numbers)
        self.assertEqual(told, ["00", "01", "1", "10"])
        for turn in itertools.permutations(numbers):
            self.assertEqual(fewest(3, list(turn)), told)
            self.assertEqual(fewest(3, list(turn) + numbers[1:3]), told)

    def test_they_show_it_and_none_may_be_left_out(self):
        for width in (4, 7, 12):
            for numbers in ([], FORTY[:1], FORTY[::9], ["000000000000", "000000000001"], FORTY[3:9]):
                numbers = sorted({number[-width:] for number in numbers})
                beginnings = fewest(width, numbers)
                looks = looks_at(beginnings, numbers)
                self.assertEqual(shown(width, looks), ("one", numbers))
                for at in range(len(looks)):
                    self.assertEqual(shown(width, looks[:at] + looks[at + 1:]), ("more",))

    def test_all_numbers_of_a_great_width(self):
        self.assertEqual(fewest(12, all_numbers(12)), all_numbers(11))

    def test_bad_widths_come_first(self):
        for width in BAD_WIDTHS:
            for numbers in (["x"], ["0", 3]):
                with self.assertRaises(BadWidth):
                    fewest(width, numbers)
            if abs(width) != GREAT:
                with self.assertRaises(BadWidth):
                    fewest(width, [])

    def test_bad_numbers(self):
        for number in BAD_NUMBERS:
            for numbers in ([number], ["0110", number], [number, "0110"], ["0000", number, "1111"]):
                with self.assertRaises(BadNumber):
                    fewest(4, numbers)
        for width, number in ((1, ""), (1, "00"), (12, "0" * 11), (12, "0" * 13)):
            with self.assertRaises(BadNumber):
                fewest(width, [number])

    def test_what_is_handed_in_and_what_is_told(self):
        numbers = ["110", "010", "110"]
        told = fewest(3, numbers)
        self.assertEqual(numbers, ["110", "010", "110"])
        self.assertIs(type(told), list)
        told.clear()
        self.assertEqual(fewest(3, numbers), ["0", "01", "1", "11"])


class WalksPaperTest(unittest.TestCase):
    def check_paper(self, width, numbers):
        walk = Walk(wire_with(width, numbers), "all")
        found = walk.go_all()
        paper = walk.paper()
        if len(paper) <= 100:
            self.assertEqual(shown(width, paper), ("one", found))
        few = fewest(width, found)
        kept = [look for look in paper if look[1:] != (True, True) or len(look[0]) == width - 1]
        self.assertEqual(sorted(look[0] for look in kept), few)
        self.assertEqual([look for look in paper if look[0] in few], kept)
        if len(kept) <= 100:
            self.assertEqual(shown(width, kept), ("one", found))
            for at in range(len(kept)):
                self.assertEqual(shown(width, kept[:at] + kept[at + 1:]), ("more",))

    def test_all_sets_of_small_widths(self):
        for width in (1, 2, 3):
            for numbers in all_sets(all_numbers(width)):
                self.check_paper(width, numbers)

    def test_greater_widths(self):
        for width, numbers in ((5, all_numbers(5)), (6, all_numbers(6)[::2]), (6, all_numbers(6)[10:50]),
                               (12, []), (12, FORTY[5:6]), (12, FORTY[:8]), (12, FORTY), (9, all_numbers(9)[100:140])):
            self.check_paper(width, numbers)


if __name__ == "__main__":
    unittest.main()
