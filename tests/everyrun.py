"""A second, slow way to decide claims, for tests only: all runs up to a length, with versions in the place of digits.

What is at most what for all rising values is asked of digitsturn.versions, which test_versions.py compares with values.
"""

from digitsturn.clocks import Clock
from digitsturn.versions import is_at_most


def is_kept(claim, call, earlier):
    """Tell whether a call keeps a claim, for all rising values; digits of readings are versions.

    earlier: the readings of all calls that had ended when this one began.
    """
    _, old, new, readings = call
    words = claim.split(" ")
    if words[0] == "whole":
        return len(set(readings.get(words[1], (0,)))) == 1
    if words[1] == "then":
        pairs = [(other.get(words[0]), readings.get(words[2])) for other in earlier]
    else:
        row = next(iter(readings.values()), ())
        ends = {"old": (old,) * len(row), "new": (new,) * len(row)}
        pairs = [tuple(ends.get(word, readings.get(word)) for word in (words[0], words[2]))]
    return all(is_at_most(one, other) for one, other in pairs if one is not None and other is not None)


class EveryRun:
    """For each claim the length of the shortest run up to a length that breaks it, with so many cells."""

    def __init__(self, world, claims, cells, length):
        self.world = world
        self.claims = claims
        self.shortest = dict.fromkeys(claims)
        self.clock = Clock(world, [(version,) * cells for version in range(length + 1)])
        self.lead(length, {}, [])

    def lead(self, left, begun, ended):
        """Try all steps; begun: how many calls had ended when each present call began; ended: their readings."""
        done = len(self.clock.moments)
        if left == 0:
            return
        for actor in ("writer",) + self.world.readers:
            _, line, _ = self.clock.step(actor)
            calls = self.clock.calls()
            if line is None:
                pass
            elif actor != "writer" and line == 0:
                self.lead(left - 1, {**begun, actor: len(ended)}, ended)
            elif len(calls) > len(ended):
                self.judge(calls[-1], ended[:begun[actor]], done)
                self.lead(left - 1, begun, ended + [calls[-1][3]])
            else:
                self.lead(left - 1, begun, ended)
            self.clock.undo()

    def judge(self, call, earlier, done):
        for claim in self.claims:
            found = self.shortest[claim]
            if (found is None or found > done) and not is_kept(claim, call, earlier):
                self.shortest[claim] = done


def shortest_breaks(world, claims, length):
    """Return for each claim the length of a shortest run of up to three cells that breaks it, or None."""
    told = [EveryRun(world, claims, cells, length).shortest for cells in (1, 2, 3)]
    return {claim: min((some[claim] for some in told if some[claim] is not None), default=None) for claim in claims}
