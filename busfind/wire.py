"""The wire on which things hang, and its rounds."""

from busfind.errors import BadBit, BadKind, NoRound, NotThere, There
from busfind.numbers import require_number, require_width

KINDS = ("all", "alarm")


def require_kind(kind):
    """Refuse what is no kind of round."""
    if kind not in KINDS:
        raise BadKind("a round is of kind all or alarm")


class Wire:
    """Things on one wire, each known by its number alone."""

    def __init__(self, width):
        require_width(width)
        self.width = width
        # Each number that hangs, with True where it has an alarm.
        self._hanging = {}
        self._listening = []
        # Before the first round it is as if all bits were said.
        self._many_said = width
        self._many_looks = 0

    def hang(self, number):
        """Hang a thing on the wire, without an alarm."""
        require_number(self.width, number)
        if number in self._hanging:
            raise There("a thing of this number hangs on the wire")
        # It is silent till the next round, which alone tells who listens.
        self._hanging[number] = False

    def off(self, number):
        """Take a thing off the wire."""
        self._require_hanging(number)
        del self._hanging[number]
        # Forgotten here, it stays silent even if it is hung again in this round.
        self._listening = [other for other in self._listening if other != number]

    def alarm(self, number):
        """Give a thing an alarm."""
        self._require_hanging(number)
        self._hanging[number] = True

    def calm(self, number):
        """Take a thing's alarm away."""
        self._require_hanging(number)
        self._hanging[number] = False

    def hung(self):
        """Tell all that hang, rising."""
        return sorted(self._hanging)

    def alarms(self):
        """Tell all that have an alarm, rising."""
        return sorted([number for number in self._hanging if self._hanging[number]])

    def begin(self, kind):
        """Begin a round in which all listen, or all that have an alarm."""
        require_kind(kind)
        self._listening = self.hung() if kind == "all" else self.alarms()
        self._many_said = 0

    def look(self):
        """Tell whether some that listen have a 0 next, and whether some have a 1."""
        self._require_round()
        self._many_looks += 1
        signs = [number[self._many_said] for number in self._listening]
        return ("0" in signs, "1" in signs)

    def say(self, bit):
        """Say a bit: those that listen and have another one next fall silent."""
        self._require_round()
        # True would pass as 1, False as 0.
        if isinstance(bit, bool) or bit not in (0, 1):
            raise BadBit("a bit is 0 or 1")
        sign = str(bit)
        self._listening = [number for number in self._listening if number[self._many_said] == sign]
        self._many_said += 1

    def looks(self):
        """Tell how many looks there were."""
        return self._many_looks

    def _require_hanging(self, number):
        require_number(self.width, number)
        if number not in self._hanging:
            raise NotThere("no thing of this number hangs on the wire")

    def _require_round(self):
        if self._many_said == self.width:
            raise NoRound("no round is under way on the wire")
