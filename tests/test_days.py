import copy
import itertools
import random
import unittest

from busfind import errors
from busfind.days import played
from busfind.errors import BadNumber, BadStep, BadWidth, Busy, NotThere, Over, There
from busfind.numbers import met
from test_numbers import BAD_WIDTHS, GREAT, all_numbers
from test_walks import FORTY
from test_wire import BAD_KINDS

WORDS_ALONE = ("step", "round", "turn", "refresh")
WORDS_OF_THINGS = ("hang", "off", "alarm", "calm")
BAD_WORDS = ("", "Hang", "HANG", "hang ", " hang", "hung", "han", "hangs", "looks", "begin", "say", "found",
             "0", "0110", "step\n", "go_round", "walks", "all", "None")
# None of any width: of no sign, of too many, of other signs, and no texts.
NO_NUMBERS = ("", "0" * 13, "1" * 14, "01" * 40, "2", "01a", " 01", "01 ", "0 1", "0b1", "+1", "-1", "O1", "l0",
              "01\n", "\n", 0, 1, 2, -1, 10, 110, GREAT, -GREAT)
BAD_STEPS = tuple([
    (), ("",), (0,), (1,), (GREAT,), (0, 1), ("", ""), ("0110",), ("0110", "hang"),
    *[(word,) for word in BAD_WORDS],
    *[(word, "0110") for word in BAD_WORDS],
    *[(word, "all") for word in BAD_WORDS],
    *[(word,) for word in (*WORDS_OF_THINGS, "walk")],
    *[(word, what) for word in WORDS_ALONE for what in ("", "all", "alarm", "0110", 1, 0)],
    *[(word, what, what) for word in (*WORDS_ALONE, *WORDS_OF_THINGS, "walk") for what in ("0110", "all", "", 3)],
    *[(word, what) for word in WORDS_OF_THINGS for what in (*NO_NUMBERS, "all", "alarm", word)],
    *[("walk", what) for what in (*BAD_KINDS, "walk", "0110", 0, 1, GREAT)],
    ("hang", "0110", "hang", "0011"), ("step",) * 2, ("step",) * 4, ("walk", "all", "all"), ("all", "walk"),
    ("hang 0110",), ("walk all",), (GREAT, "0110"), (5, 5, 5),
])
HANG_ALL = [("hang", number) for number in ("010", "011", "110")]


class Refused(Exception):
    """What the model refuses with: the name of a class."""


class ModelWalk:
    def __init__(self, model, kind):
        self.model, self.kind = model, kind
        self.row, self.said = [""], None

    def step(self):
        model = self.model
        if self.said is None:
            if not self.row:
                raise Refused("Over")
            model.listening = {n for n, alarm in model.things.items() if alarm or self.kind == "all"}
            self.said = self.row.pop()
            model.listening = {n for n in model.listening if n.startswith(self.said)}
        else:
            model.looks += 1
            heard = sorted({n[:len(self.said) + 1] for n in model.listening})
            if not heard:
                self.said = None
                return ("lost",)
            self.row += heard[1:]
            self.said = heard[0]
            model.listening = {n for n in model.listening if n.startswith(self.said)}
        if len(self.said) == model.width:
            number, self.said = self.said, None
            return ("found", number)
        return None

    def round(self):
        while (told := self.step()) is None:
            pass
        return told


class Model:
    """A day, written down apart from the program, as the document says it."""

    def __init__(self, width):
        self.width, self.looks = width, 0
        # Each number that hangs, and whether it has an alarm.
        self.things, self.listening = {}, set()
        self.walk_now, self.walk_of_desk = ModelWalk(self, "all"), ModelWalk(self, "all")
        self.kept = []

    def hang(self, number):
        self.require(number, hanging=False)
        self.things[number] = False

    def off(self, number):
        self.require(number)
        del self.things[number]
        self.listening.discard(number)

    def alarm(self, number):
        self.require(number)
        self.things[number] = True

    def calm(self, number):
        self.require(number)
        self.things[number] = False

    def require(self, number, hanging=True):
        if len(number) != self.width:
            raise Refused("BadNumber")
        if (number in self.things) != hanging:
            raise Refused("NotThere" if hanging else "There")

    def walk(self, kind):
        self.walk_now = ModelWalk(self, kind)

    def step(self):
        return self.walk_now.step()

    def round(self):
        return self.walk_now.round()

    def turn(self):
        self.require_idle()
        told = ModelWalk(self, "alarm").round()
        if told[0] == "found":
            self.things[told[1]] = False
            return ("alarm", told[1])
        return self.walk_of_desk.round() if self.walk_of_desk.row else ("done",)

    def refresh(self):
        self.require_idle()
        self.looks += len(met(self.width, list(self.things)))
        before, self.kept = self.kept, sorted(self.things)
        return (sorted(set(self.kept) - set(before)), sorted(set(before) - set(self.kept)))

    def require_idle(self):
        if self.walk_now.said is not None:
            raise Refused("Busy")


def model_of(width, steps):
    """What the document says that is told, or the name of what it is refused with and at which step."""
    model, told = Model(width), []
    for at, (word, *rest) in enumerate(steps):
        try:
            told.append(getattr(model, word)(*rest))
        except Refused as refused:
            return (str(refused), at)
    return (told, sorted(model.things), model.looks)


class ModelTest(unittest.TestCase):
    """Drawn days beside the model."""

    def drawn_step(self, drawn, model, numbers):
        words = ("hang", "hang", "hang", "off", "alarm", "alarm", "calm", "walk", "step", "step", "step", "step",
                 "round", "round", "turn", "turn", "refresh")
        word = drawn.choice(words)
        if word == "walk":
            # Seldom enough for most walks to come to their ends.
            return (word, drawn.choice(("all", "all", "alarm"))) if drawn.random() < 0.5 else ("step",)
        if word in WORDS_ALONE:
            return (word,)
        hanging = sorted(model.things)
        others = [number for number in numbers if number not in model.things]
        fitting = others if word == "hang" else hanging
        return (word, drawn.choice(fitting or numbers))

    def drawn_steps(self, drawn, width, many):
        """Steps none of which is refused."""
        numbers, steps, model = all_numbers(width), [], Model(width)
        for _ in range(9 * many):
            step = self.drawn_step(drawn, model, numbers)
            beside = copy.deepcopy(model)
            try:
                getattr(beside, step[0])(*step[1:])
            except Refused:
                continue
            model = beside
            steps.append(step)
            if len(steps) == many:
                break
        return steps

    def refusing_steps(self, drawn, steps, width):
        """One step more, of any kind, somewhere: it may be refused, or lead to a refusal behind it."""
        number = drawn.choice(all_numbers(drawn.choice((width, width, width, 13 - width))))
        step = drawn.choice((("hang", number), ("off", number), ("alarm", number), ("calm", number), ("walk", "alarm"),
                             ("round",), ("step",), ("turn",), ("refresh",)))
        at = drawn.randint(0, len(steps))
        return steps[:at] + [step] + steps[at:]

    def check(self, width, steps):
        expected = model_of(width, steps)
        if isinstance(expected[0], str):
            with self.assertRaises(errors.BusError) as caught:
                played(width, steps)
            self.assertIs(type(caught.exception), getattr(errors, expected[0]))
            return expected[0]
        self.assertEqual(played(width, steps), expected)
        return "played"

    def test_drawn_days(self):
        seen = {}
        for width in (1, 2, 3, 4, 12):
            for seed in range(60):
                drawn = random.Random(seed)
                steps = self.drawn_steps(drawn, width, drawn.choice((5, 20, 60)))
                with self.subTest(width=width, seed=seed):
                    self.assertEqual(self.check(width, steps), "played")
                    for _ in range(8):
                        told = self.check(width, self.refusing_steps(drawn, steps, width))
                        seen[told] = seen.get(told, 0) + 1
        for name in ("played", "BadNumber", "There", "NotThere", "Over", "Busy"):
            # Each has to come often, else little is tested here.
            self.assertGreater(seen.get(name, 0), 20, name)

    def test_all_short_days(self):
        steps = [("hang", "0"), ("hang", "1"), ("off", "0"), ("alarm", "1"), ("calm", "1"), ("walk", "all"),
                 ("walk", "alarm"), ("step",), ("round",), ("turn",), ("refresh",)]
        for many in range(5):
            for day in itertools.product(steps, repeat=many):
                self.check(1, list(day))

    def test_two_hundred_drawn_steps(self):
        for width in (2, 3, 5, 12):
            drawn = random.Random(width)
            steps = self.drawn_steps(drawn, width, 200)
            self.assertEqual(len(steps), 200)
            self.assertEqual(self.check(width, steps), "played")


class PlayedTest(unittest.TestCase):
    def told_by(self, width, steps):
        told, _, _ = played(width, steps)
        return told

    def test_no_steps(self):
        for width in range(1, 13):
            self.assertEqual(played(width, []), ([], [], 0))

    def test_hang_off_alarm_and_calm(self):
        steps = [("hang", "11"), ("hang", "01"), ("hang", "00"), ("alarm", "11"), ("alarm", "01"), ("alarm", "01"),
                 ("calm", "11"), ("calm", "00"), ("off", "00")]
        self.assertEqual(played(2, steps), ([None] * 9, ["01", "11"], 0))
        self.assertEqual(self.told_by(2, [*steps, ("turn",), ("turn",)])[-2:], [("alarm", "01"), ("found", "01")])

    def test_steps_of_the_walk(self):
        told = [None] * 6 + [("found", "010"), ("found", "011"), None, None, ("found", "110")]
        self.assertEqual(played(3, [*HANG_ALL, *[("step",)] * 8]), (told, ["010", "011", "110"], 5))

    def test_rounds_of_the_walk(self):
        told = [None] * 3 + [("found", number) for number in ("010", "011", "110")]
        self.assertEqual(played(3, [*HANG_ALL, *[("round",)] * 3]), (told, ["010", "011", "110"], 5))

    def test_a_round_from_the_midst_of_one(self):
        for many in (1, 2, 3):
            steps = [*HANG_ALL, *[("step",)] * many, ("round",), ("round",)]
            told = [None] * (3 + many) + [("found", "010"), ("found", "011")]
            self.assertEqual(played(3, steps), (told, ["010", "011", "110"], 3))

    def test_a_lost_round(self):
        self.assertEqual(played(3, [("round",)]), ([("lost",)], [], 1))
        self.assertEqual(played(3, [("step",), ("step",)]), ([None, ("lost",)], [], 1))
        steps = [("hang", "00"), ("hang", "10"), ("round",), ("off", "10"), ("round",)]
        self.assertEqual(played(2, steps), ([None, None, ("found", "00"), None, ("lost",)], ["00"], 3))

    def test_the_walk_at_first_is_of_kind_all(self):
        self.assertEqual(self.told_by(1, [("hang", "1"), ("round",)]), [None, ("found", "1")])
        self.assertEqual(self.told_by(2, [("hang", "01"), ("hang", "10"), ("alarm", "10"), ("round",)])[-1],
                         ("found", "01"))

    def test_a_walk_of_each_kind(self):
        steps = [("hang", "01"), ("hang", "10"), ("alarm", "10")]
        self.assertEqual(self.told_by(2, [*steps, ("walk", "alarm"), ("round",)])[3:], [None, ("found", "10")])
        self.assertEqual(self.told_by(2, [*steps, ("walk", "all"), ("round",)])[3:], [None, ("found", "01")])

    def test_a_new_walk_knows_nothing_of_the_elder(self):
        steps = [("hang", "01"), ("hang", "10"), ("round",), ("walk", "all"), ("round",), ("round",), ("walk", "all"),
                 ("round",)]
        self.assertEqual(self.told_by(2, steps)[2:], [("found", "01"), None, ("found", "01"), ("found", "10"), None,
                                                      ("found", "01")])

    def test_a_walk_comes_in_the_place_of_one_that_is_over(self):
        for kind, came in (("all", ("found", "10")), ("alarm", ("lost",))):
            steps = [("hang", "10"), ("round",), ("walk", kind), ("round",)]
            self.assertEqual(self.told_by(2, steps)[2:], [None, came])

    def test_a_walk_comes_in_the_place_of_one_with_a_round_under_way(self):
        for many in (1, 2, 3):
            steps = [*HANG_ALL, *[("step",)] * many, ("walk", "all")]
            # No round of the new walk is under way: desk and keeper do their work.
            self.assertEqual(self.told_by(3, [*steps, ("turn",)])[-1], ("found", "010"))
            self.assertEqual(self.told_by(3, [*steps, ("refresh",)])[-1], (["010", "011", "110"], []))
            # And it begins anew.
            self.assertEqual(self.told_by(3, [*steps, *[("step",)] * 4])[-4:], [None] * 3 + [("found", "010")])
            self.assertEqual(self.told_by(3, [*steps, ("round",)])[-1], ("found", "010"))

    def test_turns(self):
        steps = [*HANG_ALL, ("alarm", "110"), ("alarm", "011"), *[("turn",)] * 7]
        told = [("alarm", "011"), ("alarm", "110"), ("found", "010"), ("found", "011"), ("found", "110"),
                ("done",), ("done",)]
        self.assertEqual(played(3, steps), ([None] * 5 + told, ["010", "011", "110"], 3 + 3 + 4 + 1 + 3 + 1 + 1))

    def test_an_alarm_behind_the_end_of_the_desk(self):
        steps = [("turn",), ("turn",), ("hang", "01"), ("turn",), ("alarm", "01"), ("turn",), ("turn",)]
        told = [("lost",), ("done",), None, ("done",), None, ("alarm", "01"), ("done",)]
        self.assertEqual(played(2, steps), (told, ["01"], 7))

    def test_refreshes(self):
        steps = [("refresh",), ("hang", "01"), ("hang", "10"), ("refresh",), ("refresh",), ("off", "10"),
                 ("hang", "00"), ("refresh",)]
        told = [([], []), None, None, (["01", "10"], []), ([], []), None, None, (["00"], ["10"])]
        self.assertEqual(played(2, steps), (told, ["00", "01"], 1 + 3 + 3 + 2))

    def test_walk_desk_and_keeper_are_apart(self):
        steps = [*HANG_ALL, ("round",), ("turn",), ("refresh",), ("round",), ("turn",), ("refresh",), ("walk", "all"),
                 ("turn",), ("refresh",), ("round",)]
        told = [("found", "010"), ("found", "010"), (["010", "011", "110"], []), ("found", "011"), ("found", "011"),
                ([], []), None, ("found", "110"), ([], []), ("found", "010")]
        self.assertEqual(self.told_by(3, steps)[3:], told)

    def test_things_come_and_go_while_a_round_is_under_way(self):
        steps = [("hang", "00"), ("hang", "11"), ("step",), ("off", "00"), ("hang", "00"), ("hang", "01"), ("step",),
                 ("step",)]
        self.assertEqual(self.told_by(2, steps)[6:], [None, ("found", "11")])

    def test_forty_things(self):
        steps = [*[("hang", number) for number in FORTY], ("refresh",), *[("round",)] * 40]
        told, hung, looks = played(12, steps)
        self.assertEqual(told[40], (sorted(FORTY), []))
        self.assertEqual(told[41:], [("found", number) for number in sorted(FORTY)])
        self.assertEqual((hung, looks), (sorted(FORTY), 2 * len(met(12, FORTY))))

    def test_two_hundred_steps(self):
        for step in (("refresh",), ("turn",), ("walk", "alarm")):
            told, hung, looks = played(3, [step] * 200)
            self.assertEqual((len(told), hung), (200, []))
        steps = [("hang", "1"), ("off", "1")] * 100
        self.assertEqual(played(1, steps), ([None] * 200, [], 0))

    def test_asked_again_the_same_is_told(self):
        steps = [*HANG_ALL, ("alarm", "110"), ("turn",), ("round",), ("refresh",), ("step",)]
        first = played(3, steps)
        self.assertEqual([played(3, steps), played(3, list(steps))], [first, first])

    def test_what_is_handed_in_is_neither_changed_nor_kept(self):
        steps = [*HANG_ALL, ("refresh",)]
        before = list(steps)
        told = played(3, steps)
        self.assertEqual(steps, before)
        steps.clear()
        self.assertEqual(told, ([None] * 3 + [(["010", "011", "110"], [])], ["010", "011", "110"], 5))

    def test_what_is_told_may_be_changed(self):
        steps = [*HANG_ALL, ("refresh",), ("refresh",)]
        first = played(3, steps)
        expected = copy.deepcopy(first)
        told, hung, _ = played(3, steps)
        told[3][0].clear()
        told[3][1].append("x")
        self.assertEqual(told[4], ([], []))
        told[4][0].append("y")
        hung.clear()
        told.clear()
        self.assertEqual((first, played(3, steps)), (expected, expected))

    def test_kinds_of_values(self):
        told = played(3, [*HANG_ALL, ("refresh",), ("turn",)])
        self.assertEqual((type(told), [type(part) for part in told]), (tuple, [list, list, int]))
        self.assertEqual([type(part) for part in told[0]], [type(None)] * 3 + [tuple, tuple])
        self.assertEqual([type(part) for part in told[0][3]], [list, list])
        self.assertIs(type(played(3, [])[2]), int)


class RefusedTest(unittest.TestCase):
    def check_bad_step(self, steps, number):
        with self.assertRaises(BadStep) as caught:
            played(4, steps)
        self.assertIs(type(caught.exception), BadStep)
        self.assertEqual((caught.exception.number, type(caught.exception.number)), (number, int))

    def test_what_is_no_step(self):
        for step in BAD_STEPS:
            self.check_bad_step([step], 0)
            self.check_bad_step([("hang", "0110"), ("turn",), step, ("turn",)], 2)
            self.check_bad_step([("turn",)] * 199 + [step], 199)

    def test_the_first_that_is_none_is_told(self):
        for first, second in itertools.product(BAD_STEPS[::7], repeat=2):
            self.check_bad_step([("turn",), first, ("turn",), second], 1)

    def test_more_than_two_hundred(self):
        for many in (201, 202, 300):
            self.check_bad_step([("turn",)] * many, 200)
        self.check_bad_step([("turn",)] * 200 + [("none",)], 200)
        self.check_bad_step([("turn",)] * 199 + [("none",)] + [("turn",)] * 9, 199)
        self.check_bad_step([("none",)] * 201, 0)
        self.check_bad_step([("turn",)] * 201 + [("none",)], 200)

    def test_bad_widths(self):
        for width in BAD_WIDTHS:
            for steps in ([], [("hang", "0110")], [("none",)], [("turn",)] * 201, [("off", "0")], [()]):
                with self.assertRaises(BadWidth):
                    played(width, steps)

    def test_bad_steps_come_ahead_of_what_a_step_is_refused_with(self):
        for refused in ([("off", "0110")], [("hang", "01")], [("hang", "0110")] * 2, [("round",), ("round",)],
                        [("step",), ("turn",)]):
            self.check_bad_step([*refused, ("none",)], len(refused))
            self.check_bad_step([*refused, *[("turn",)] * (201 - len(refused))], 200)

    def check_refused(self, kind, width, steps):
        """The last step is refused with this, the others are not."""
        with self.assertRaises(errors.BusError) as caught:
            played(width, steps)
        self.assertIs(type(caught.exception), kind)
        told, _, _ = played(width, steps[:-1])
        self.assertEqual(len(told), len(steps) - 1)
        # It is the first step refused that counts.
        for other in (("off", "1" * width), ("hang", "1" * (13 - width)), ("round",), ("turn",)):
            with self.assertRaises(kind):
                played(width, [*steps, other])

    def test_numbers_of_another_width(self):
        for width in range(1, 13):
            for length in range(1, 13):
                number = "01" * 6
                steps = [("hang", number[:length])]
                if length == width:
                    self.assertEqual(played(width, steps), ([None], [number[:length]], 0))
                    continue
                self.check_refused(BadNumber, width, steps)
                for word in ("off", "alarm", "calm"):
                    self.check_refused(BadNumber, width, [("turn",), (word, number[:length])])

    def test_there(self):
        self.check_refused(There, 2, [("hang", "01"), ("hang", "01")])
        self.check_refused(There, 2, [("hang", "01"), ("off", "01"), ("hang", "01"), ("turn",), ("hang", "01")])

    def test_not_there(self):
        for word in ("off", "alarm", "calm"):
            self.check_refused(NotThere, 2, [(word, "01")])
            self.check_refused(NotThere, 2, [("hang", "01"), (word, "10")])
            self.check_refused(NotThere, 2, [("hang", "01"), ("off", "01"), (word, "01")])

    def test_over(self):
        for word in ("step", "round"):
            self.check_refused(Over, 2, [("round",), (word,)])
            self.check_refused(Over, 2, [("hang", "01"), ("round",), (word,)])
            self.check_refused(Over, 2, [("hang", "01"), ("hang", "10"), ("round",), ("round",), ("turn",), (word,)])
            self.check_refused(Over, 2, [("walk", "alarm"), ("step",), ("step",), (word,)])

    def test_busy(self):
        for word in ("turn", "refresh"):
            for many in (1, 2, 3):
                self.check_refused(Busy, 3, [*HANG_ALL, *[("step",)] * many, (word,)])
                self.check_refused(Busy, 3, [*HANG_ALL, ("walk", "all"), *[("step",)] * many, (word,)])
            self.check_refused(Busy, 3, [("step",), (word,)])
            self.check_refused(Busy, 3, [("walk", "alarm"), ("step",), (word,)])
            self.check_refused(Busy, 3, [*HANG_ALL, ("step",), ("alarm", "010"), (word,)])
            self.check_refused(Busy, 3, [*HANG_ALL, ("step",), ("walk", "all"), ("step",), (word,)])

    def test_not_busy(self):
        for word in ("turn", "refresh"):
            # Between rounds, by step or round, at the first and behind the last.
            for ahead in ([], [("step",)] * 4, [("step",)] * 5, [("step",), ("round",)], [("round",)] * 3):
                told, _, _ = played(3, [*HANG_ALL, *ahead, (word,)])
                self.assertIsNotNone(told[-1])
            # A whole number from the row is found as its round begins.
            told, _, _ = played(1, [("hang", "0"), ("hang", "1"), ("round",), ("step",), (word,)])
            self.assertEqual(told[3], ("found", "1"))

    def test_nothing_else_is_busy(self):
        steps = [*HANG_ALL, ("step",), ("hang", "111"), ("off", "110"), ("alarm", "010"), ("calm", "010"), ("step",),
                 ("round",)]
        self.assertEqual(played(3, steps)[0], [None] * 9 + [("found", "010")])


if __name__ == "__main__":
    unittest.main()
