"""Runs: who does a step, what the registers hold then, and which calls have ended."""

from digitsturn.errors import NoActor
from digitsturn.moves import move, start
from digitsturn.texts import WRITER


def checked_actors(layout, actors):
    """Return the actors as a new list; raises NoActor(name)."""
    for actor in actors:
        if actor not in layout.first:
            raise NoActor(actor)
    return list(actors)


class Run:
    """A run of a world, with checked values, that is led step by step."""

    def __init__(self, layout, rows):
        self.layout = layout
        self.rows = rows
        self.flags = (0,) * len(layout.flags)
        self.places = {actor: None for actor in layout.first}
        self.cells = {name: list(rows[0]) for name in layout.registers}
        # The greatest versions whose rounds have begun and have ended.
        self.begun = 0
        self.ended = 0
        # For each reader within a call what is to be told of it: its `old` and the rows that were read.
        self.olds = {}
        self.found = {}
        self.ended_calls = []

    def step(self, actor):
        """Let an actor do a step, and return (actor, line, cell)."""
        place = self.places[actor]
        if place is None:
            return self.begin(actor)
        line, cell, place, flags = move(self.layout, len(self.rows[0]), actor, place, self.flags)
        self.places[actor] = place
        self.flags = flags
        if line is not None:
            self.keep(actor, self.layout.lines[line], cell)
        if place is None:
            self.finish(actor)
        return actor, line, cell

    def begin(self, actor):
        """Begin a round, if there is a value for it, or a call."""
        if actor == WRITER:
            if self.begun + 1 == len(self.rows):
                return actor, None, None
            self.begun += 1
        else:
            self.olds[actor] = self.ended
            self.found[actor] = {}
        self.places[actor] = start(self.layout, actor)
        return actor, 0, None

    def keep(self, actor, words, cell):
        """Keep what a line did to the registers or to the readings."""
        if words[0] == "write":
            self.cells[words[1]][cell] = self.rows[self.begun][cell]
        elif words[0] == "read":
            row = self.found[actor].setdefault(words[4], list(self.rows[0]))
            row[cell] = self.cells[words[1]][cell]
        elif words[0] == "again":
            self.found[actor] = {}

    def finish(self, actor):
        """End a round or a call. No sweep is left unfinished then, so each row that was found is whole."""
        if actor == WRITER:
            self.ended = self.begun
            return
        readings = {name: tuple(row) for name, row in self.found[actor].items()}
        self.ended_calls.append((actor, self.olds[actor], self.begun, readings))
