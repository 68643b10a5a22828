"""Days: steps done one after another, on a wire with a walk, a desk and a keeper."""

from busfind.desk import Desk
from busfind.errors import Busy
from busfind.keeper import Keeper
from busfind.numbers import require_width
from busfind.steps import require_steps
from busfind.walks import Walk
from busfind.wire import Wire


class Day:
    """A wire with a walk, a desk and a keeper, to which steps are done."""

    def __init__(self, width):
        self._wire = Wire(width)
        self._walk = Walk(self._wire, "all")
        self._desk = Desk(self._wire)
        self._keeper = Keeper(self._wire)

    def do(self, step):
        """Do what surely is a step, and tell what it tells."""
        match step:
            case ("hang", number):
                return self._wire.hang(number)
            case ("off", number):
                return self._wire.off(number)
            case ("alarm", number):
                return self._wire.alarm(number)
            case ("calm", number):
                return self._wire.calm(number)
            case ("walk", kind):
                self._walk = Walk(self._wire, kind)
                return None
            case ("step",):
                return self._walk.step()
            case ("round",):
                return self._walk.go_round()
            case ("turn",):
                self._require_no_round()
                return self._desk.turn()
            case _:
                self._require_no_round()
                return self._keeper.refresh()

    def end(self):
        """Tell who hangs, rising, and how many looks there were."""
        return (self._wire.hung(), self._wire.looks())

    def _require_no_round(self):
        # The desk and the keeper begin rounds of their own on the same wire.
        if self._walk.is_under_way():
            raise Busy("a round of the walk is under way")


def played(width, steps):
    """Tell what the steps of a day tell, who hangs behind them, and how many looks there were."""
    require_width(width)
    require_steps(steps)
    day = Day(width)
    told = [day.do(step) for step in steps]
    hung, looks = day.end()
    return (told, hung, looks)
