"""Clocks: runs that are led step by step, and back."""

from digitsturn.errors import NoRegister, NothingToUndo
from digitsturn.rising import checked_values
from digitsturn.runs import Run, checked_actors


class Clock:
    """A run of a world that is led by hand."""

    def __init__(self, world, values):
        # The run as it was at the beginning and behind each step that is not undone. None of them is changed later.
        self.moments = [Run(world.layout, checked_values(values))]

    def step(self, actor):
        """Do a step and return (actor, line, cell); raises NoActor(name)."""
        now = self.moments[-1]
        checked_actors(now.layout, [actor])
        later = now.fork()
        told = later.step(actor)
        self.moments.append(later)
        return told

    def calls(self):
        """Return the calls that have ended, each as (reader, old, new, readings)."""
        ended = [moment.call for moment in self.moments if moment.call is not None]
        return [(reader, old, new, dict(readings)) for reader, old, new, readings in ended]

    def held(self, register):
        """Return the digits that a register holds; raises NoRegister(name)."""
        cells = self.moments[-1].cells
        if register not in cells:
            raise NoRegister(register)
        return cells[register]

    def undo(self):
        """Undo the latest step that is not undone; raises NothingToUndo()."""
        if len(self.moments) == 1:
            raise NothingToUndo()
        self.moments.pop()

    def attempt(self, action):
        """Return what the action, called with the clock, returns; if an error leaves it, all is as it was before."""
        before = list(self.moments)
        try:
            told = action(self)
            before = None
        finally:
            if before is not None:
                self.moments = before
        return told
