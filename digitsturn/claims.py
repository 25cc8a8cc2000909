"""Claims about readings, for all numbers of cells, all rising values and all runs."""

from digitsturn.breaks import is_broken, shortest_break
from digitsturn.cones import Cone, outlines_of
from digitsturn.forms import read_claim


def holds(world, claim):
    """Tell whether a claim holds; raises BadClaim(), NoReading(name), NotTogether()."""
    return not is_broken(cone_of(world, claim))


def broken_by(world, claim):
    """Return (values, actors) of a shortest run that breaks a claim, or None if the claim holds.

    Raises BadClaim(), NoReading(name), NotTogether().
    """
    return shortest_break(cone_of(world, claim))


def cone_of(world, claim):
    """Return what matters for a claim; raises BadClaim(), NoReading(name), NotTogether()."""
    form = read_claim(world.layout, claim)
    return Cone(world.layout, outlines_of(world.layout), form)


def claims_of(world):
    """Return all claims that can be made of a world."""
    told = []
    for one in world.readings:
        told += [f"old <= {one}", f"{one} <= new", f"whole {one}"]
    owners = world.layout.owners
    for one in world.readings:
        told += [f"{one} <= {two}" for two in world.readings if two != one and owners[two] == owners[one]]
    for one in world.readings:
        told += [f"{one} then {two}" for two in world.readings]
    return told


def kept_claims(world):
    """Return those claims of a world that hold."""
    layout = world.layout
    outlines = outlines_of(layout)
    forms = [(claim, read_claim(layout, claim)) for claim in claims_of(world)]
    return [claim for claim, form in forms if not is_broken(Cone(layout, outlines, form))]
