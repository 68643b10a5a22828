"""What is refused: a class for each kind of refusal."""


class BusError(ValueError):
    """Any refusal."""


class BadWidth(BusError):
    """What is handed in as a width is none."""


class BadNumber(BusError):
    """What is handed in as a thing's number is none of the width."""


class BadKind(BusError):
    """A text that is no kind of round."""


class BadBit(BusError):
    """What is handed in as a bit is none."""


class There(BusError):
    """The thing hangs on the wire already."""


class NotThere(BusError):
    """The thing does not hang on the wire."""


class NoRound(BusError):
    """No round was begun, or all bits of a number are said."""


class Over(BusError):
    """No round is under way and there is nowhere to go."""


class Busy(BusError):
    """A round of the walk is under way."""


class BadLooks(BusError):
    """Looks that can't be; `number` is the first such look."""

    def __init__(self, number):
        super().__init__(f"look {number} can't be")
        self.number = number


class BadRoster(BusError):
    """A list that is no roster, or not of a roster's numbers."""


class TooMany(BusError):
    """A roster that is too long for what is asked."""


class BadPlan(BusError):
    """What is handed in as a plan is none."""


class BadStep(BusError):
    """Steps that can't be; `number` is the first such step."""

    def __init__(self, number):
        super().__init__(f"step {number} can't be")
        self.number = number


class BadText(BusError):
    """A text that writes no steps; `row` is the first such row."""

    def __init__(self, row):
        super().__init__(f"row {row} writes no step")
        self.row = row
