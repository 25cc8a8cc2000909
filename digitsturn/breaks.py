"""Looks for a run that breaks a claim."""

from digitsturn.forms import NEW, OLD, THEN, TOGETHER, WHOLE
from digitsturn.runs import Run
from digitsturn.searches import next_runs, shortest_way

# One cell with a step and two cells with a carry are enough for all numbers of cells and all rising values.
STEP = ((0,), (1,))
CARRY = ((0, 1), (1, 0))


class Break:
    """The search for a run that breaks a claim, by values that turn once.

    A node is (run, greatest, bound, broken). For `V then W`, greatest is the greatest V of the calls that have ended,
    and bound what that was when the present call of W's reader began; None: there is none. Version 0 of the run stands
    for all versions below the turn, version 1 for all others.
    """

    def __init__(self, layout, claim, rows):
        self.layout = layout
        self.form, self.names = claim
        self.rows = rows
        self.reader = layout.owners[self.names[-1]]

    def beginning(self):
        """Return the node of a run in which nothing is done yet."""
        return Run(self.layout, self.rows), None, None, False

    def key(self, node):
        """Return a tuple that is the same for nodes from which the same may follow."""
        run, greatest, bound, broken = node
        return run.state(), greatest, bound, broken

    def is_found(self, node):
        """Tell whether the claim is broken."""
        return node[3]

    def followers(self, node):
        """Return ((actor, version), node) for all steps that may come next."""
        return [((actor, version), self.behind(node, actor, run)) for actor, version, run in next_runs(node[0])]

    def behind(self, node, actor, run):
        """Return the node behind a step of an actor that led to this run."""
        before, greatest, bound, _ = node
        if run.call is not None:
            broken = self.is_broken(run.call, bound)
            if actor == self.reader:
                bound = None
            return run, self.greater(greatest, run.call[3]), bound, broken
        if actor == self.reader and before.places[actor] is None:
            bound = greatest
        return run, greatest, bound, False

    def greater(self, greatest, readings):
        """Return the greatest V, these readings of a call included."""
        row = readings.get(self.names[0])
        if self.form != THEN or row is None:
            return greatest
        if greatest is None or row > greatest:
            return row
        return greatest

    def is_broken(self, call, bound):
        """Tell whether a call breaks the claim."""
        if self.form == WHOLE:
            return call[3].get(self.names[0], self.rows[0]) not in self.rows
        low, high = self.sides(call, bound)
        return low is not None and high is not None and low > high

    def sides(self, call, bound):
        """Return what must be at most the other for this call; None: the call does not have it."""
        _, old, new, readings = call
        row = readings.get(self.names[-1])
        if self.form == OLD:
            return self.rows[old], row
        if self.form == NEW:
            return row, self.rows[new]
        if self.form == TOGETHER:
            return readings.get(self.names[0]), row
        return bound, row


def shortest_break(layout, claim):
    """Return (values, actors) of a shortest run that breaks a claim, or None."""
    told = None
    for rows in (STEP, CARRY):
        way = shortest_way(Break(layout, claim, rows))
        if way is not None and (told is None or len(way) < len(told[1])):
            values = [rows[0]] + [rows[version] for _, version in way if version is not None]
            told = (values, [actor for actor, _ in way])
    return told
