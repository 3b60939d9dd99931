"""A bench: glasses and steps that are changed by edits, and back."""

from truealarms.alarms import alarm_of
from truealarms.edits import apply_edits
from truealarms.errors import NoDeed
from truealarms.seenends import check_alike


def _kept_edit(edit):
    """An edit as a tuple, a row within it as a tuple, too."""
    if edit[0] == "row":
        return (edit[0], edit[1], tuple(edit[2]))
    return tuple(edit)


class Bench:
    """Glasses and steps of the moment, and the standing edits that led to them."""

    def __init__(self, glasses, steps):
        check_alike(glasses, steps)
        # The glasses and steps ahead of the first edit and behind each standing one.
        self._states = [(glasses, steps)]
        self._edits = []

    @property
    def present_glasses(self):
        """The glasses of the moment."""
        return self._states[-1][0]

    @property
    def present_steps(self):
        """The steps of the moment."""
        return self._states[-1][1]

    @property
    def log(self):
        """The standing edits, in order."""
        return tuple(self._edits)

    def change(self, edit):
        """Make an edit."""
        state = apply_edits(self.present_glasses, self.present_steps, (edit,))
        kept = _kept_edit(edit)
        self._states.append(state)
        self._edits.append(kept)

    def take_back(self):
        """Take the last standing edit back."""
        if not self._edits:
            raise NoDeed()
        self._states.pop()
        self._edits.pop()

    def verdict(self, program, lot, wish):
        """Which alarm there is for a wish at a start with the glasses and steps of the moment."""
        return alarm_of(self.present_glasses, self.present_steps, program, lot, wish)

    def trial(self, edits, program, lot, wish):
        """Which alarm there would be for a wish at a start behind edits, which are not kept."""
        glasses, steps = apply_edits(self.present_glasses, self.present_steps, edits)
        return alarm_of(glasses, steps, program, lot, wish)
