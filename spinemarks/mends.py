"""The texts of marks of which a text may come by one slip."""

from spinemarks.states import ALIKE_SIGNS, START, ending, step

# The kind of slip that leads back, and how many signs it takes away.
BACK = {"other": ("other", 1), "lost": ("extra", 0), "extra": ("lost", 1), "turned": ("turned", 2)}


class Mends:
    """A text, and what is known of how its signs go on behind the first signs of a mark."""

    def __init__(self, text):
        self._text = text
        # By how many signs of the text are ahead: what states the others end a mark from, or don't.
        self._ends = [{} for _ in range(len(text) + 1)]
        self._steps = {}

    def texts(self, kind):
        """All texts of marks of which the text comes by one slip of the kind, some perhaps several times."""
        back, taken = BACK[kind]
        found = []
        state = START
        # The signs ahead of the slip stay as they are, so it is no later than the first wrong one.
        for at in range(len(self._text) - taken + 1):
            ahead = self._text[:at]
            gone = self._text[at:at + taken]
            rest = self._text[at + taken:]
            for things, following in self._put(back, state, gone):
                if self._is_ended(following, at + taken):
                    found += [ahead + signs + rest for signs in things if signs != gone]
            if at < len(self._text):
                state = step(state, self._text[at])
            if state is None:
                break
        return found

    def _put(self, back, state, gone):
        """What may stand in the place of the signs that are gone, by the states behind it."""
        if back == "lost":
            return [(("",), state)]
        if back == "turned":
            following = step(state, gone[1])
            following = None if following is None else step(following, gone[0])
            return [] if following is None else [((gone[1] + gone[0],), following)]
        if state not in self._steps:
            steps = [(signs, step(state, signs[0])) for signs in ALIKE_SIGNS]
            self._steps[state] = [row for row in steps if row[1] is not None]
        return self._steps[state]

    def _is_ended(self, state, at):
        """Whether a mark is whole with the signs from this place on, in this state ahead of them."""
        known = self._ends[at]
        if state not in known:
            known[state] = self._goes_to_end(state, at)
        return known[state]

    def _goes_to_end(self, state, at):
        if at == len(self._text):
            return ending(state) == ""
        following = step(state, self._text[at])
        return following is not None and self._is_ended(following, at + 1)
