"""Which states can do all that others can."""

from fixworlds.components import components
from fixworlds.masks import led, mask_of, states_in, step_masks
from fixworlds.rounds import like_at_once


def doers_of(world):
    """The list with the mask of the states that can do all that each state can."""
    doers = [0] * len(world.states)
    for block in like_at_once(world.states):
        for state in states_in(block):
            doers[state] = block
    return Doers(doers, world.steps, world.steps, False).doers


class Doers:
    """For each state the states that may do all that it can; those that cannot are taken out.

    Steps that are asked for must be followed by answering ones. If mutual is True, a state that
    is taken out at another one loses that one as well.

    If a state is taken out at the end of a step, those that lead to it may be unable to follow
    the step. So each end is looked at once with all states, and again when it has lost some.
    Ends come before what leads to them: so most have lost all that they lose.
    """

    def __init__(self, doers, asked, answering, mutual):
        many = len(doers)
        self.doers = list(doers)
        self._mutual = mutual
        self._lost = [0] * many
        self._waiting = ends_first(many, asked)
        labels = sorted({label for _, label, _ in asked})
        leading = [step_masks(many, asked, label)[1] for label in labels]
        follow = [step_masks(many, answering, label) for label in labels]
        everywhere = (1 << many) - 1
        done = 0
        while done < len(self._waiting):
            end = self._waiting[done]
            lost = self._lost[end]
            self._lost[end] = 0
            for starts, (behind, before) in zip(leading, follow):
                if starts[end]:
                    looked_at = everywhere if done < many else led(before, lost)
                    self._take_out(starts[end], behind, end, looked_at)
            done += 1

    def _take_out(self, starts, behind, end, looked_at):
        """Takes those that cannot follow a step to an end out at the states before it."""
        doers = self.doers[end]
        unable = mask_of([state for state in states_in(looked_at) if not behind[state] & doers])
        for start in states_in(starts):
            gone = self.doers[start] & unable
            self._lose(start, gone)
            if self._mutual:
                for other in states_in(gone):
                    self._lose(other, 1 << start)

    def _lose(self, state, gone):
        if gone and not self._lost[state]:
            self._waiting.append(state)
        self._lost[state] |= gone
        self.doers[state] &= ~gone


def ends_first(many, steps):
    """The list of all states, each behind those to which it leads, unless they lead back to it."""
    ways = {state: [] for state in range(many)}
    for start, _, end in steps:
        ways[start].append(end)
    return [state for members in components(ways) for state in members]
