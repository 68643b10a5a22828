import itertools
import random
import unittest

from busfind.days import played
from busfind.errors import BadStep, BadText
from busfind.notes import read, written
from test_days import BAD_STEPS, HANG_ALL, NO_NUMBERS, WORDS_ALONE, WORDS_OF_THINGS
from test_numbers import all_numbers

# All that rows write, in lengths of all kinds.
STEPS = tuple([
    *[(word,) for word in WORDS_ALONE],
    ("walk", "all"), ("walk", "alarm"),
    *[(word, number) for word in WORDS_OF_THINGS for number in
      ("0", "1", "01", "10", "0110", "000000", "1111111", "01010101010", "000000000000", "111111111111")],
])
# Each writes no step.
BAD_ROWS = (
    "", " ", "  ", "hang", "hang ", " hang", " hang 0110", "hang 0110 ", "hang  0110", "hang   0110",
    "hang 0110 0110", "hang 01 10", "hang 0110 hang 0011", "hang0110", "hang,0110", "hang\t0110", "hang_0110",
    "Hang 0110", "HANG 0110", "hung 0110", "0110", "0110 hang", "0110 0110", "hang all", "hang 0120", "hang O110",
    "hang -1", "hang +0110", "hang 0b11", "hang '0110'", "('hang', '0110')", "hang: 0110", "hang 0110.", "hang 0110#",
    "hang " + "0" * 13, "off " + "1" * 40, "off", "alarm", "calm", "off  1", "alarm 2", "calm 0 ",
    "step ", " step", "step step", "step 0110", "step 1", "Step", "steps", "round ", "round 2", "round all", "turn 0",
    "turn ", " turn", "refresh ", "refresh  ", "refresh all", "refresh refresh", "go_round", "begin all", "look",
    "walk", "walk ", " walk all", "walk  all", "walk all ", "walk All", "walk alarms", "walk al", "walk 0110",
    "walk all all", "walk all alarm", "walk alarm all", "walkall", "all", "all walk", "None", "~", "!", "\\n", "a b c d",
    "step\r", "\r", "step\x0b", "step\x0c", "step\x85", "step\u2028",
)


class WrittenTest(unittest.TestCase):
    def test_no_steps(self):
        self.assertEqual(written([]), "")

    def test_one_step(self):
        for step in STEPS:
            self.assertEqual(written([step]), " ".join(step))
        self.assertEqual(written([("hang", "0110")]), "hang 0110")
        self.assertEqual(written([("walk", "alarm")]), "walk alarm")
        self.assertEqual(written([("refresh",)]), "refresh")

    def test_several_steps(self):
        steps = [("hang", "0110"), ("walk", "all"), ("step",), ("round",), ("alarm", "0"), ("turn",)]
        self.assertEqual(written(steps), "hang 0110\nwalk all\nstep\nround\nalarm 0\nturn")
        self.assertEqual(written([("turn",)] * 3), "turn\nturn\nturn")

    def test_two_hundred_steps(self):
        self.assertEqual(written([("turn",)] * 200), "turn\n" * 199 + "turn")

    def check_bad_step(self, steps, number):
        with self.assertRaises(BadStep) as caught:
            written(steps)
        self.assertIs(type(caught.exception), BadStep)
        self.assertEqual((caught.exception.number, type(caught.exception.number)), (number, int))

    def test_what_is_no_step(self):
        for step in BAD_STEPS:
            self.check_bad_step([step], 0)
            self.check_bad_step([("hang", "0110"), ("turn",), step, ("turn",)], 2)
            self.check_bad_step([("turn",)] * 199 + [step], 199)

    def test_the_first_that_is_none_is_told(self):
        for first, second in itertools.product(BAD_STEPS[::9], repeat=2):
            self.check_bad_step([("turn",), first, ("turn",), second], 1)

    def test_more_than_two_hundred(self):
        for many in (201, 202, 300):
            self.check_bad_step([("turn",)] * many, 200)
        self.check_bad_step([("turn",)] * 200 + [("none",)], 200)
        self.check_bad_step([("turn",)] * 199 + [("none",)] * 2, 199)
        self.check_bad_step([("none",)] * 201, 0)

    def test_steps_that_a_day_refuses_are_written(self):
        steps = [("hang", "0"), ("hang", "0110"), ("off", "111"), ("turn",), ("step",), ("turn",)]
        self.assertEqual(written(steps), "hang 0\nhang 0110\noff 111\nturn\nstep\nturn")

    def test_nothing_is_changed(self):
        steps = [("hang", "0110"), ("turn",)]
        self.assertEqual([written(steps), written(steps)], ["hang 0110\nturn"] * 2)
        self.assertEqual(steps, [("hang", "0110"), ("turn",)])
        self.assertIs(type(written(steps)), str)


class ReadTest(unittest.TestCase):
    def test_the_empty_text(self):
        self.assertEqual(read(""), [])

    def test_one_row(self):
        for step in STEPS:
            self.assertEqual(read(" ".join(step)), [step])
        self.assertEqual(read("hang 0110"), [("hang", "0110")])
        self.assertEqual(read("walk all"), [("walk", "all")])
        self.assertEqual(read("refresh"), [("refresh",)])

    def test_several_rows(self):
        text = "hang 0110\nwalk all\nstep\nround\nalarm 0\nturn"
        steps = [("hang", "0110"), ("walk", "all"), ("step",), ("round",), ("alarm", "0"), ("turn",)]
        self.assertEqual([read(text), read(text)], [steps, steps])

    def test_two_hundred_rows(self):
        self.assertEqual(read("turn\n" * 199 + "turn"), [("turn",)] * 200)
        self.assertEqual(read("hang 01\n" * 199 + "step"), [("hang", "01")] * 199 + [("step",)])

    def check_bad_text(self, text, row):
        with self.assertRaises(BadText) as caught:
            read(text)
        self.assertIs(type(caught.exception), BadText)
        self.assertEqual((caught.exception.row, type(caught.exception.row)), (row, int))

    def test_rows_that_write_no_step(self):
        for row in BAD_ROWS:
            if row:
                self.check_bad_text(row, 0)
            self.check_bad_text(row + "\nturn", 0)
            self.check_bad_text("turn\n" + row, 1)
            self.check_bad_text("hang 0110\nturn\n" + row + "\nturn", 2)
            self.check_bad_text("turn\n" * 199 + row, 199)

    def test_numbers_that_are_none(self):
        for word in WORDS_OF_THINGS:
            for number in NO_NUMBERS:
                if isinstance(number, str):
                    self.check_bad_text(f"turn\n{word} x{number}", 1)
                    if "\n" not in number:
                        self.check_bad_text(f"turn\n{word} {number}", 1)

    def test_line_ends_alone(self):
        for many in (1, 2, 3, 199, 200, 201, 300):
            self.check_bad_text("\n" * many, 0)

    def test_a_line_end_at_an_end_or_two_between(self):
        self.check_bad_text("turn\n", 1)
        self.check_bad_text("turn\nstep\n", 2)
        self.check_bad_text("\nturn", 0)
        self.check_bad_text("turn\n\nturn", 1)
        self.check_bad_text("turn\nturn\n\n", 2)
        self.check_bad_text("turn\n" * 200, 200)
        self.check_bad_text("turn\r\nturn", 0)

    def test_the_first_that_writes_none_is_told(self):
        for first, second in itertools.product(BAD_ROWS[::5], repeat=2):
            self.check_bad_text("\n".join(["turn", first, "turn", second]), 1)

    def test_more_than_two_hundred(self):
        for many in (201, 202, 300):
            self.check_bad_text("\n".join(["turn"] * many), 200)
        self.check_bad_text("\n".join(["turn"] * 200 + ["none"]), 200)
        self.check_bad_text("\n".join(["turn"] * 201 + ["none"]), 200)
        self.check_bad_text("\n".join(["turn"] * 199 + ["none"] * 2), 199)
        self.check_bad_text("\n".join(["none"] * 201), 0)

    def test_each_sign_of_a_text(self):
        signs = [chr(at) for at in range(32, 127) if at != 37] + ["\n"]
        for at in range(len("hang 01") + 1):
            for sign in signs:
                text = "hang 01"[:at] + sign + "hang 01"[at:]
                if sign in "01" and at > 4:
                    self.assertEqual(read(text), [("hang", text[5:])])
                else:
                    # A line end in the number, or behind it, leaves a row that is one.
                    self.check_bad_text(text, 1 if sign == "\n" and at > 5 else 0)

    def test_what_is_told_may_be_changed(self):
        text = "turn\nhang 01"
        told = read(text)
        told.clear()
        told.append(("step",))
        self.assertEqual(read(text), [("turn",), ("hang", "01")])
        read("").append(("turn",))
        self.assertEqual(read(""), [])

    def test_kinds_of_values(self):
        told = read("turn\nhang 01")
        self.assertEqual((type(told), [type(step) for step in told]), (list, [tuple, tuple]))
        self.assertEqual([type(part) for part in told[1]], [str, str])
        self.assertIs(type(read("")), list)


class BothTest(unittest.TestCase):
    def check_same(self, steps):
        text = written(steps)
        self.assertEqual(read(text), steps)
        self.assertEqual(written(read(text)), text)

    def test_each_step_and_each_two(self):
        for step in STEPS:
            self.check_same([step])
        for pair in itertools.product(STEPS, repeat=2):
            self.check_same(list(pair))

    def test_all_numbers_of_some_widths(self):
        for width in (1, 2, 3, 5):
            for word in WORDS_OF_THINGS:
                self.check_same([(word, number) for number in all_numbers(width)])

    def test_drawn_lists(self):
        drawn = random.Random(16)
        for many in (0, 1, 2, 3, 50, 199, 200):
            for _ in range(5):
                self.check_same([drawn.choice(STEPS) for _ in range(many)])

    def test_a_day_from_a_text(self):
        steps = [*HANG_ALL, ("alarm", "110"), ("turn",), ("round",), ("refresh",)]
        text = "hang 010\nhang 011\nhang 110\nalarm 110\nturn\nround\nrefresh"
        self.assertEqual(written(steps), text)
        self.assertEqual(played(3, read(text)), played(3, steps))


if __name__ == "__main__":
    unittest.main()
