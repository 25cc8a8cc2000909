"""Worlds: registers, a writer that turns them and readers that read them."""

from digitsturn.layouts import read_layout
from digitsturn.rising import checked_values
from digitsturn.runs import Run, checked_actors


class World:
    """A world, read from its text. It never changes."""

    def __init__(self, text):
        self.layout = read_layout(text)
        self.text = text
        self.flags = tuple(self.layout.flags)
        self.registers = tuple(self.layout.registers)
        self.readers = tuple(self.layout.readers)
        self.readings = tuple(self.layout.readings)

    def __eq__(self, other):
        return isinstance(other, World) and self.text == other.text

    def run(self, values, actors):
        """Return the calls that have ended in a run, each as (reader, old, new, readings)."""
        order = checked_actors(self.layout, actors)
        play = Run(self.layout, checked_values(values))
        calls = []
        for actor in order:
            play.step(actor)
            if play.call is not None:
                calls.append(play.call)
        return calls

    def steps(self, values, actors):
        """Yield (actor, line, cell) for each step of a run."""
        order = checked_actors(self.layout, actors)
        play = Run(self.layout, checked_values(values))
        for actor in order:
            yield play.step(actor)
