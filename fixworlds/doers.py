"""Which states can do all that others can."""

from fixworlds.components import components
from fixworlds.masks import led, mask_of, states_in, step_masks
from fixworlds.rounds import like_at_once


def doers_of(world):
    """The list with the mask of the states that can do all that each state can."""
    return Doers(world).doers


class Doers:
    """For each state the states that may do all that it can; those that cannot are taken out.

    If a state is taken out at the end of a step, those that lead to it may be unable to follow
    the step. So each end is looked at once with all states, and again when it has lost some.
    Ends come before what leads to them: so most have lost all that they lose.
    """

    def __init__(self, world):
        many = len(world.states)
        self._masks = [step_masks(many, world.steps, label) for label in range(world.labels)]
        self.doers = [0] * many
        for block in like_at_once(world.states):
            for state in states_in(block):
                self.doers[state] = block
        self._lost = [0] * many
        self._waiting = ends_first(world)
        everywhere = (1 << many) - 1
        done = 0
        while done < len(self._waiting):
            end = self._waiting[done]
            lost = self._lost[end]
            self._lost[end] = 0
            for behind, before in self._masks:
                asked = everywhere if done < many else led(before, lost)
                self._take_out(behind, before, end, asked)
            done += 1

    def _take_out(self, behind, before, end, asked):
        """Takes those that cannot follow a step to an end out at the states before it."""
        if before[end] == 0:
            return
        doers = self.doers[end]
        unable = mask_of([state for state in states_in(asked) if not behind[state] & doers])
        for start in states_in(before[end]):
            lost = self.doers[start] & unable
            if lost:
                if not self._lost[start]:
                    self._waiting.append(start)
                self._lost[start] |= lost
                self.doers[start] ^= lost


def ends_first(world):
    """The list of all states, each behind those to which it leads, unless they lead back to it."""
    ways = {state: [] for state in range(len(world.states))}
    for start, _, end in world.steps:
        ways[start].append(end)
    return [state for members in components(ways) for state in members]
