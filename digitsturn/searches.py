"""Searches through all runs of a world, for a shortest one that is looked for.

A search is an object with `beginning()`, a node; `followers(node)`, a list of (step, node) for all steps that may
come next; `key(node)`, a tuple that is the same for nodes from which the same may follow; and `is_found(node)`.
"""

from digitsturn.texts import WRITER


def next_runs(run):
    """Return (actor, run) for all steps that may come next.

    A round that begins stays at the version of the one ahead of it: it stands for a round of a version of equal value.
    """
    told = []
    for actor in list(run.places):
        later = run.fork()
        if actor == WRITER and run.places[actor] is None:
            later.begin_round(run.begun)
        else:
            later.step(actor)
        told.append((actor, later))
    return told


def shortest_way(search):
    """Return the steps of a shortest way from the beginning to a node that is found, or None if there is none."""
    first = search.beginning()
    # For each node that was reached: the key of the node ahead of it and the step between them.
    ways = {search.key(first): None}
    level = [first]
    while level:
        later = []
        for node in level:
            before = search.key(node)
            for step, other in search.followers(node):
                key = search.key(other)
                if key in ways:
                    continue
                ways[key] = (before, step)
                if search.is_found(other):
                    return way_to(ways, key)
                later.append(other)
        level = later
    return None


def way_to(ways, key):
    """Return the steps that lead to a node."""
    told = []
    while ways[key] is not None:
        key, step = ways[key]
        told.append(step)
    return told[::-1]
