"""Searches through all runs of a world, for a shortest one that is looked for.

A search is an object with `beginning()`, a node; `followers(node)`, a list of (step, node) for all steps that may
come next; `key(node)`, a tuple that is the same for nodes from which the same may follow; and `is_found(node)`.
"""

from digitsturn.texts import WRITER


def next_runs(run):
    """Return (actor, version, run) for all steps that may come next; version is None if no round begins.

    A round may also begin that does not go on to the next version: it stands for one of a version of equal value.
    So a run over few values stands for all runs in which only so many versions differ from the one ahead of them.
    """
    told = []
    for actor in list(run.places):
        if actor == WRITER and run.places[actor] is None:
            for version in range(run.begun, len(run.rows)):
                told.append((actor, version, run_with_round(run, version)))
        else:
            later = run.fork()
            later.step(actor)
            told.append((actor, None, later))
    return told


def run_with_round(run, version):
    """Return the run behind the beginning of a round."""
    later = run.fork()
    later.begin_round(version)
    return later


def shortest_way(search):
    """Return the steps of a shortest way from the beginning to a node that is found, or None if there is none."""
    first = search.beginning()
    # For each node that was reached: the key of the node ahead of it and the step between them.
    ways = {search.key(first): None}
    level = [first]
    while level:
        later = []
        for node in level:
            before = search.key(node)
            for step, other in search.followers(node):
                key = search.key(other)
                if key in ways:
                    continue
                ways[key] = (before, step)
                if search.is_found(other):
                    return way_to(ways, key)
                later.append(other)
        level = later
    return None


def way_to(ways, key):
    """Return the steps that lead to a node."""
    told = []
    while ways[key] is not None:
        key, step = ways[key]
        told.append(step)
    return told[::-1]
