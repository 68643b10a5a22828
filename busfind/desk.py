"""A desk: who has an alarm comes first, and all that hang are found between."""

from busfind.walks import Walk


class Desk:
    """A walk over a wire that goes on only while nobody has an alarm."""

    def __init__(self, wire):
        self._wire = wire
        self._walk = Walk(wire, "all")

    def turn(self):
        """Calm and tell the least that has an alarm; if none has, do a round of the walk."""
        came = Walk(self._wire, "alarm").go_round()
        if came[0] == "found":
            number = came[1]
            self._wire.calm(number)
            return ("alarm", number)
        # Between turns no round of the walk is under way, so its row alone tells.
        if not self._walk.left():
            return ("done",)
        return self._walk.go_round()
