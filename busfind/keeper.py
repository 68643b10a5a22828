"""A keeper: who came to a wire, and who went."""

from busfind.walks import Walk


class Keeper:
    """What hung on a wire when it was last refreshed."""

    def __init__(self, wire):
        self._wire = wire
        self._last = []

    def refresh(self):
        """Find all that hang, and tell who came and who went since this was done last."""
        hung = Walk(self._wire, "all").go_all()
        came = [number for number in hung if number not in self._last]
        went = [number for number in self._last if number not in hung]
        self._last = hung
        return (came, went)

    def last(self):
        """Tell who hung there when it was refreshed last, rising."""
        return list(self._last)
