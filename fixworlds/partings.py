"""Statements without variables that part states."""

from fixworlds.joins import all_of, any_of
from fixworlds.masks import led, mask_of, step_masks
from fixworlds.rounds import all_rounds, first_round
from fixworlds.worlds import followers

# To look at several plans keeps statements short where states differ only behind many steps.
MOST_PLANS = 4
MOST_GOALS = 20


class Found:
    """A statement, the mask of the states at which it is true, and the number of its parts."""

    def __init__(self, formula, mask, size):
        self.formula = formula
        self.mask = mask
        self.size = size


class Plan:
    """How to part two states: by a some or all, and by what parts an end from others.

    A goal (wanted, other) asks for a statement within the some or all that parts these ends.
    For a some the goals have one wanted end: what is true there must be false at all others.
    For an all they have one other end: what is false there must be true at all wanted ones.
    """

    def __init__(self, head, goals):
        self.head = head
        self.goals = goals


class Task:
    """Two states to be parted: the plans to look at, how many are done, and the best found so far."""

    def __init__(self, plans):
        self.plans = plans
        self.done = 0
        self.best = None


class Partings:
    """The statements that part pairs of states of a world."""

    def __init__(self, world):
        self._world = world
        many = len(world.states)
        self._everywhere = (1 << many) - 1
        self._before = [step_masks(many, world.steps, label)[1] for label in range(world.labels)]
        self._rounds = all_rounds(world)
        least = {}
        for state, number in enumerate(self._rounds[-1]):
            least.setdefault(number, state)
        self._least = [least[number] for number in self._rounds[-1]]
        self._tasks = {}
        self._found = {}

    def statement(self, first, second):
        """A statement that is true at the first state and not at the second, or None."""
        goal = (self._least[first], self._least[second])
        if goal[0] == goal[1]:
            return None
        waiting = [goal]
        while waiting:
            missing = self._missing(waiting[-1])
            if missing is None:
                waiting.pop()
            else:
                waiting.append(missing)
        return self._found[goal].formula

    def where(self, first, second):
        """Where the statement that parts two states is true, if it has been asked for."""
        return self._found[(self._least[first], self._least[second])].mask

    def _missing(self, goal):
        """A goal that is needed first; None if none is, and the statement of the goal is found."""
        if goal in self._found:
            return None
        if self._round(goal) == 0:
            self._found[goal] = self._by_facts(goal)
            return None
        if goal not in self._tasks:
            self._tasks[goal] = Task(self._plans(goal))
        task = self._tasks[goal]
        while task.done < len(task.plans):
            missing = self._look(task, task.plans[task.done])
            if missing is not None:
                return missing
            task.done += 1
        self._found[goal] = task.best
        return None

    def _look(self, task, plan):
        """Looks at a plan for a task; returns a goal that is needed first, or None."""
        chosen = []
        left = plan.goals
        mask = self._everywhere if plan.head[0] == "some" else 0
        while left:
            if left[0] not in self._found:
                return left[0]
            found = self._found[left[0]]
            chosen.append(found)
            if plan.head[0] == "some":
                mask &= found.mask
                left = [goal for goal in left if mask >> goal[1] & 1]
            else:
                mask |= found.mask
                left = [goal for goal in left if not mask >> goal[0] & 1]
        size = 1 + sum([1 + found.size for found in chosen])
        if task.best is None or size < task.best.size:
            task.best = self._stepped(plan.head, [found.formula for found in chosen], mask, size)
        return None

    def _round(self, goal):
        """How many rounds it takes to part two states."""
        return first_round(self._rounds, goal[0], goal[1])

    def _by_facts(self, goal):
        """What parts two states with different facts."""
        rows = self._world.states
        first, second = goal
        fact = min([fact for fact in rows[first] + rows[second]
                    if (fact in rows[first]) != (fact in rows[second])])
        mask = mask_of([state for state, row in enumerate(rows) if fact in row])
        if fact in rows[first]:
            return Found(("has", fact), mask, 1)
        return Found(("lacks", fact), self._everywhere ^ mask, 1)

    def _plans(self, goal):
        """The plans with the fewest goals, among those that take the fewest rounds."""
        numbers = self._rounds[self._round(goal) - 1]
        plans = []
        for label in range(self._world.labels):
            ends, others = [
                sorted({self._least[follower] for follower in followers(self._world, state, label)})
                for state in goal
            ]
            known = {numbers[other]: True for other in others}
            for end in ends:
                if numbers[end] not in known:
                    plans.append(Plan(("some", label), [(end, other) for other in others]))
            known = {numbers[end]: True for end in ends}
            for other in others:
                if numbers[other] not in known:
                    plans.append(Plan(("all", label), [(end, other) for end in ends]))
        plans = sorted(plans, key=many_goals)
        chosen = plans[:1] + [plan for plan in plans[1:MOST_PLANS] if len(plan.goals) <= MOST_GOALS]
        # What takes the most rounds is needed in any case, and may part others as well.
        return [Plan(plan.head, sorted(plan.goals, key=self._round, reverse=True)) for plan in chosen]

    def _stepped(self, head, chosen, mask, size):
        """The some or all of what is chosen, which is true at the states of a mask."""
        before = self._before[head[1]]
        if head[0] == "some":
            return Found(head + (all_of(chosen),), led(before, mask), size)
        escapes = led(before, self._everywhere ^ mask)
        return Found(head + (any_of(chosen),), self._everywhere ^ escapes, size)


def many_goals(plan):
    """How many goals a plan has."""
    return len(plan.goals)
