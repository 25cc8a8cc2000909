"""A second, slow way to decide claims, for tests only: all states of a whole world, with digits, one run for each.

Unlike the package's own search it leaves nothing out of a world, and it compares readings as they stand.
"""

from digitsturn.runs import Run

STEP = ((0,), (1,))
CARRY = ((0, 1), (1, 0))


class TooMany(Exception):
    """More states than the test wants to wait for."""


def key_of(run):
    """Return all of a run that may matter later."""
    return (tuple(run.places.values()), run.flags, tuple(run.cells.values()), run.begun, run.ended,
            tuple(run.olds.values()), tuple(run.found.values()))


def next_runs(run):
    """Yield (actor, run) for all steps; a round may be that of the turn, or one that changes nothing."""
    for actor in run.places:
        if actor == "writer" and run.places[actor] is None:
            for version in range(run.begun, 2):
                later = run.fork()
                later.begin_round(version)
                yield actor, later
        else:
            later = run.fork()
            later.step(actor)
            yield actor, later


class Search:
    """A search over one claim and one number of cells. A node is (run, greatest V, what that was at W's beginning)."""

    def __init__(self, layout, claim, rows):
        self.layout = layout
        self.words = claim.split(" ")
        self.rows = rows
        self.last = [word for word in self.words if word in layout.owners][-1]

    def length(self, most):
        """Return the length of a shortest run that breaks the claim, or None; raises TooMany."""
        start = (Run(self.layout, self.rows), None, None)
        seen = {(key_of(start[0]), None, None)}
        level, steps = [start], 0
        while level:
            later, steps = [], steps + 1
            for node in level:
                for actor, run in next_runs(node[0]):
                    greatest, bound, broken = self.behind(node, actor, run)
                    if broken:
                        return steps
                    key = (key_of(run), greatest, bound)
                    if key not in seen:
                        seen.add(key)
                        later.append((run, greatest, bound))
                if len(seen) > most:
                    raise TooMany
            level = later
        return None

    def behind(self, node, actor, run):
        """Return (greatest, bound, whether the claim is broken) behind a step."""
        before, greatest, bound = node
        mine = actor == self.layout.owners[self.last]
        if run.call is None:
            if mine and self.words[1] == "then" and before.places[actor] is None:
                bound = greatest
            return greatest, bound, False
        broken = self.is_broken(run.call, bound)
        row = run.call[3].get(self.words[0])
        if self.words[1] == "then" and row is not None and (greatest is None or row > greatest):
            greatest = row
        return greatest, None if mine else bound, broken

    def is_broken(self, call, bound):
        _, old, new, readings = call
        if self.words[0] == "whole":
            return readings.get(self.words[1], self.rows[0]) not in self.rows
        ends = {"old": self.rows[old], "new": self.rows[new]}
        low = ends.get(self.words[0], readings.get(self.words[0]))
        high = ends.get(self.words[2], readings.get(self.words[2]))
        if self.words[1] == "then":
            low = bound
        return low is not None and high is not None and low > high


def shortest_length(world, claim, most):
    """Return the length of a shortest run that breaks a claim, or None if it holds; raises TooMany."""
    lengths = [Search(world.layout, claim, rows).length(most) for rows in (STEP, CARRY)]
    return min((length for length in lengths if length is not None), default=None)
