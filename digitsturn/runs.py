"""Runs: who does a step, what the registers hold then, and which calls have ended."""

from digitsturn.errors import NoActor
from digitsturn.moves import move, put, start
from digitsturn.texts import WRITER


def checked_actors(layout, actors):
    """Return the actors as a new list; raises NoActor(name)."""
    for actor in actors:
        if actor not in layout.first:
            raise NoActor(actor)
    return list(actors)


class Run:
    """A run of a world, with checked values, that is led step by step."""

    def __init__(self, layout, rows):
        self.layout = layout
        self.rows = rows
        self.flags = (0,) * len(layout.flags)
        self.places = {actor: None for actor in layout.first}
        self.cells = {name: rows[0] for name in layout.registers}
        # The greatest versions whose rounds have begun and have ended.
        self.begun = 0
        self.ended = 0
        # What the present calls have: the `old` of each reader and the row of each reading, or None.
        self.olds = {reader: None for reader in layout.readers}
        self.found = {name: None for name in layout.readings}
        # The call that ended with the latest step, or None.
        self.call = None

    def fork(self):
        """Return a run that goes on from here, apart from this one."""
        other = Run(self.layout, self.rows)
        other.flags = self.flags
        other.places = dict(self.places)
        other.cells = dict(self.cells)
        other.begun = self.begun
        other.ended = self.ended
        other.olds = dict(self.olds)
        other.found = dict(self.found)
        return other

    def step(self, actor):
        """Let an actor do a step, and return (actor, line, cell)."""
        self.call = None
        place = self.places[actor]
        if place is None:
            return self.begin(actor)
        line, cell, place, flags = move(self.layout, len(self.rows[0]), actor, place, self.flags)
        self.places[actor] = place
        self.flags = flags
        if line is not None:
            self.keep(actor, self.layout.lines[line], cell)
        if place is None:
            self.finish(actor)
        return actor, line, cell

    def begin(self, actor):
        """Begin a round, if there is a value for it, or a call."""
        if actor != WRITER:
            self.olds[actor] = self.ended
            self.places[actor] = start(self.layout, actor)
        elif self.begun + 1 < len(self.rows):
            self.begin_round(self.begun + 1)
        else:
            return actor, None, None
        return actor, 0, None

    def begin_round(self, version):
        """Begin the round of a version."""
        self.begun = version
        self.places[WRITER] = start(self.layout, WRITER)

    def keep(self, actor, words, cell):
        """Keep what a line did to the registers or to the readings."""
        if words[0] == "write":
            self.cells[words[1]] = put(self.cells[words[1]], cell, self.rows[self.begun][cell])
        elif words[0] == "read":
            row = self.found[words[4]]
            if row is None:
                row = self.rows[0]
            self.found[words[4]] = put(row, cell, self.cells[words[1]][cell])
        elif words[0] == "again":
            self.forget(actor)

    def forget(self, reader):
        """Take the readings of a reader away."""
        for name, owner in self.layout.owners.items():
            if owner == reader:
                self.found[name] = None

    def finish(self, actor):
        """End a round or a call. No sweep is left unfinished then, so each row that was found is whole."""
        if actor == WRITER:
            self.ended = self.begun
            return
        owners = self.layout.owners
        readings = {name: row for name, row in self.found.items() if row is not None and owners[name] == actor}
        self.call = (actor, self.olds[actor], self.begun, readings)
        self.forget(actor)
        self.olds[actor] = None
