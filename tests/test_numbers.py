import itertools
import unittest

from busfind.errors import BadNumber, BadWidth
from busfind.numbers import met

GREAT = 10 ** 5000
BAD_WIDTHS = (0, 13, 14, -1, -12, 100, True, False, GREAT, -GREAT)
# For the width 4.
BAD_NUMBERS = (
    "", "0", "011", "01100", "0110" * 50, "0120", "01a0", "abcd", " 011", "011 ", "01 0",
    "0110\n", "011\n", "-011", "+011", "0b11", "01.0", "\u0660\u0661\u0661\u0660", "0\u00b9\u00b90",
    0, 1, 10, 110, 1010, 6, -1, 1111, GREAT, True, False,
)


def all_numbers(width):
    return ["".join(signs) for signs in itertools.product("01", repeat=width)]


class WidthsTest(unittest.TestCase):
    def test_from_one_to_twelve(self):
        for width in range(1, 13):
            with self.subTest(width):
                number = "1" * width
                self.assertEqual(met(width, [number]), [number[:k] for k in range(width)])

    def test_others_are_refused(self):
        for width in BAD_WIDTHS:
            with self.subTest("great" if abs(width) == GREAT else width):
                # With a number that is none, a great width that is let through fails at once.
                with self.assertRaises(BadWidth):
                    met(width, ["x"] if abs(width) == GREAT else [])

    def test_a_width_is_refused_ahead_of_numbers(self):
        for width in BAD_WIDTHS:
            with self.assertRaises(BadWidth):
                met(width, ["x", 3])


class NumbersTest(unittest.TestCase):
    def test_others_are_refused(self):
        for number in BAD_NUMBERS:
            with self.subTest("great" if number == GREAT else repr(number)):
                with self.assertRaises(BadNumber):
                    met(4, [number])

    def test_refused_wherever_it_stands(self):
        for row in (["2222", "0110"], ["0110", "2222"], ["0110", "1111", 1111, "0000"]):
            with self.subTest(row=row):
                with self.assertRaises(BadNumber):
                    met(4, row)

    def test_refused_at_the_least_and_the_greatest_width(self):
        for width, number in ((1, ""), (1, "01"), (1, "2"), (1, 0), (1, 1), (1, True),
                              (12, "0" * 11), (12, "0" * 13), (12, "0" * 11 + "2")):
            with self.subTest(width=width, number=number):
                with self.assertRaises(BadNumber):
                    met(width, [number])


class MetTest(unittest.TestCase):
    def test_of_no_numbers(self):
        for width in range(1, 13):
            self.assertEqual(met(width, []), [""])

    def test_of_one(self):
        self.assertEqual(met(4, ["0110"]), ["", "0", "01", "011"])

    def test_width_one(self):
        for numbers in ([], ["0"], ["1"], ["0", "1"], ["1", "0", "1"]):
            self.assertEqual(met(1, numbers), [""])

    def test_width_twelve(self):
        self.assertEqual(
            met(12, ["010101010101", "010101010100"]),
            ["010101010101"[:k] for k in range(12)],
        )

    def test_of_several_in_any_turn(self):
        told = ["", "0", "00", "01", "1", "10"]
        for numbers in itertools.permutations(["000", "011", "100", "101"]):
            self.assertEqual(met(3, list(numbers)), told)

    def test_the_same_number_twice(self):
        self.assertEqual(met(3, ["110", "010", "110", "110"]), ["", "0", "01", "1", "11"])

    def test_of_any_set_of_numbers(self):
        numbers = all_numbers(3)
        beginnings = ["", "0", "00", "01", "1", "10", "11"]
        for many in range(9):
            for some in itertools.combinations(numbers, many):
                told = [b for b in beginnings if not b or any(n.startswith(b) for n in some)]
                self.assertEqual(met(3, list(some)), told)

    def test_no_number_is_told_itself(self):
        numbers = all_numbers(5)
        told = met(5, numbers)
        self.assertEqual(told, sorted(told))
        self.assertEqual(len(told), 31)
        self.assertEqual([text for text in told if len(text) >= 5], [])

    def test_what_is_handed_in_stays(self):
        numbers = ["110", "010", "110"]
        met(3, numbers)
        self.assertEqual(numbers, ["110", "010", "110"])
        refused = ["110", "010", "2"]
        with self.assertRaises(BadNumber):
            met(3, refused)
        self.assertEqual(refused, ["110", "010", "2"])

    def test_what_is_told_may_be_changed(self):
        numbers = ["110"]
        told = met(3, numbers)
        self.assertIs(type(told), list)
        told.append("x")
        told[0] = "y"
        self.assertEqual(met(3, numbers), ["", "1", "11"])
        self.assertEqual(met(3, []), [""])

    def test_what_is_handed_in_may_be_changed_later(self):
        numbers = ["110"]
        told = met(3, numbers)
        numbers.clear()
        self.assertEqual(told, ["", "1", "11"])


if __name__ == "__main__":
    unittest.main()
