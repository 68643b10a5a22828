"""Walks: all that hang on a wire, or all that have an alarm, found one after another."""

from busfind.errors import Over
from busfind.wire import require_kind


class Walk:
    """A walk over a wire, in rounds of one kind, from the least number to the greatest."""

    def __init__(self, wire, kind):
        require_kind(kind)
        self._wire = wire
        self._kind = kind
        self._row = [""]
        self._found = []
        self._paper = []
        # What was said in the round that is under way, None while none is.
        self._said = None

    def step(self):
        """Begin a round or look once, and tell what came of a round that is over by it."""
        if self._said is None:
            return self._begin_round()
        zero, one = self._wire.look()
        self._paper.append((self._said, zero, one))
        if not zero and not one:
            self._said = None
            return ("lost",)
        if zero and one:
            self._row.append(self._said + "1")
        return self._say("0" if zero else "1")

    def go_round(self):
        """Do steps until one tells what came of a round, and tell that."""
        came = self.step()
        while came is None:
            came = self.step()
        return came

    def go_all(self):
        """Do steps until there is nowhere to go, and tell all that was found."""
        while self._said is not None or self._row:
            self.step()
        return self.found()

    def left(self):
        """Tell the beginnings and whole numbers to go to; the last one comes first."""
        return list(self._row)

    def found(self):
        """Tell all numbers found so far, in turn."""
        return list(self._found)

    def paper(self):
        """Tell all looks so far, in turn: what was said, and what was heard."""
        return list(self._paper)

    def is_under_way(self):
        """Tell whether a round is under way."""
        return self._said is not None

    def _begin_round(self):
        if not self._row:
            raise Over("the walk has nowhere to go")
        self._wire.begin(self._kind)
        self._said = ""
        # A whole number from the row is found by this alone, without a look.
        return self._say(self._row.pop())

    def _say(self, signs):
        for sign in signs:
            self._wire.say(int(sign))
        said = self._said + signs
        if len(said) < self._wire.width:
            self._said = said
            return None
        self._said = None
        self._found.append(said)
        return ("found", said)
