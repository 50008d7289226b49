"""Closed statements as equations (kind, body), one for each binder, and back.

The bodies have no binders: variable i in them stands for the equation with the index i.
"""

from fixworlds.components import components, flood
from fixworlds.parts import BINDERS, built, parts_of
from fixworlds.statements import tidy


def equations_of(statement):
    """The equations of a closed statement: first the whole, then the binders as they are written."""
    parts = parts_of(tidy(statement))
    made = [()] * len(parts)
    equations = {}
    for at in reversed(range(len(parts))):
        head = parts[at].head
        inner = tuple([made[place] for place in parts[at].inner])
        if head[0] in BINDERS:
            equations[head[1]] = (head[0], inner[0])
        if head[0] in BINDERS or head[0] == "var":
            made[at] = ("var", 1 + head[1])
        else:
            made[at] = head + inner
    return [("least", made[0])] + [equations[number] for number in range(len(equations))]


def variables_in(body):
    """The ascending list of the variables of a statement without binders."""
    return sorted({part.head[1] for part in parts_of(body) if part.head[0] == "var"})


def with_replaced(body, replacements):
    """A statement without binders, with a statement in place of each variable."""
    parts = parts_of(body)
    heads = []
    for part in parts:
        head = part.head
        if head[0] == "var":
            head = replacements[head[1]]
        heads.append(head)
    return built(parts, heads)


def levels_of(equations, ways):
    """For each equation how many changes of the kind stand before it among those of its loops.

    Only the order of equations that lead to one another matters, and among neighbours of one
    kind it does not either: so equations of one level may stand in any order.
    """
    levels = {}
    for members in components(ways):
        level = 0
        before = None
        for at in sorted(members):
            kind = equations[at][0]
            if before is not None and kind != before:
                level += 1
            before = kind
            levels[at] = level
    return levels


def names_of(ways):
    """A variable for each equation; equations that lead to one another have different ones."""
    names = {}
    for members in components(ways):
        for name, at in enumerate(sorted(members)):
            names[at] = name
    return names


def closed_statement(equations):
    """A closed statement that is true, in every world, where variable 0 of the equations is."""
    return Writer(equations).statement()


class Writer:
    """Writes equations into each other, until each variable stands within a binder of its own.

    A task (index, bound) is an equation to be written within binders of others: bound is the
    ascending tuple of those that it can lead to. A variable may refer to a binder around it
    only if no equation of a lesser level has been opened between them. Otherwise a loop through
    both would count for the outer binder, though the lesser level decides it.
    """

    def __init__(self, equations):
        self.equations = equations
        self.ways = {at: variables_in(body) for at, (_, body) in enumerate(equations)}
        self.levels = levels_of(equations, self.ways)
        self.names = names_of(self.ways)
        self.reached = {at: reached_from(at, self.ways) for at in self.ways}
        self.done = {}

    def statement(self):
        """The closed statement for variable 0."""
        first = (0, ())
        waiting = [first]
        while waiting:
            task = waiting[-1]
            missing = [other for other in self._needed(task) if other not in self.done]
            if missing:
                waiting.extend(missing)
            else:
                self.done[task] = self._written(task)
                waiting.pop()
        statement, _ = self.done[first]
        return statement

    def _opened(self, task):
        """The list of the equations that are bound within the binder of a task."""
        index, bound = task
        level = self.levels[index]
        return sorted([at for at in bound if self.levels[at] <= level] + [index])

    def _inner_task(self, index, opened):
        """The task for an equation that is not bound where it is needed."""
        reached = self.reached[index]
        return index, tuple([at for at in opened if at in reached])

    def _needed(self, task):
        opened = self._opened(task)
        return [self._inner_task(at, opened) for at in self.ways[task[0]] if at not in opened]

    def _written(self, task):
        """The statement for a task, and those of the equations bound around it that it mentions."""
        opened = self._opened(task)
        replacements = {}
        mentioned = {}
        for at in self.ways[task[0]]:
            others = (at,)
            if at in opened:
                replacements[at] = ("var", self.names[at])
            else:
                replacements[at], others = self.done[self._inner_task(at, opened)]
            for other in others:
                mentioned[other] = True
        kind, body = self.equations[task[0]]
        statement = with_replaced(body, replacements)
        if task[0] in mentioned:
            statement = (kind, self.names[task[0]], statement)
        return statement, tuple([at for at in mentioned if at != task[0]])


def reached_from(start, ways):
    """A dict with all to which a node leads by one step or more."""
    reached = {}
    for end in ways[start]:
        if end not in reached:
            flood(end, ways, reached)
    return reached
