"""Whether an actor ends its round or call if from some moment on it alone does steps."""

from digitsturn.moves import move
from digitsturn.runs import Run, checked_actors
from digitsturn.searches import next_runs, shortest_way

# No line looks at digits or counts cells, so one cell that never turns shows all there is.
STILL = ((0,),)
CELLS = 1


class Standstill:
    """The search for a run that leads an actor to where it never ends alone. A node is a run."""

    def __init__(self, layout, actor):
        self.layout = layout
        self.actor = actor
        # Whether the actor ends alone, by its place and the flags.
        self.known = {}

    def beginning(self):
        """Return the run in which nothing is done yet."""
        return Run(self.layout, STILL)

    def key(self, run):
        """Return a tuple that is the same for runs in which the same lines may follow."""
        return tuple(run.places.values()), run.flags

    def followers(self, run):
        """Return (actor, run) for all steps that may come next."""
        return next_runs(run)

    def is_found(self, run):
        """Tell whether the actor is within a round or call that it never ends alone."""
        return not self.ends(run.places[self.actor], run.flags)

    def ends(self, place, flags):
        """Tell whether the actor comes to rest if it alone does steps from here on."""
        passed = {}
        while place is not None and (place, flags) not in self.known and (place, flags) not in passed:
            passed[(place, flags)] = True
            _, _, place, flags = move(self.layout, CELLS, self.actor, place, flags)
        # Where it has passed already, it goes round for ever.
        told = place is None or self.known.get((place, flags), False)
        for key in passed:
            self.known[key] = told
        return told


def ends_alone(world, actor):
    """Tell whether an actor ends alone; raises NoActor(name)."""
    return stuck(world, actor) is None


def stuck(world, actor):
    """Return a shortest list of actors behind which the actor never ends alone, or None; raises NoActor(name)."""
    checked_actors(world.layout, [actor])
    return shortest_way(Standstill(world.layout, actor))
