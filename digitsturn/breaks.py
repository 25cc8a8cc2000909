"""Looks for a run that breaks a claim."""

from digitsturn.boards import BROKEN, Board, part
from digitsturn.patterns import broken_rows
from digitsturn.texts import WRITER
from digitsturn.tracks import REST, ReaderTrack, WriterTrack

# The values ahead of the turn and behind it, by the number of cells: one cell with a step and two cells with a carry.
# They are enough for all numbers of cells and all rising values.
VALUES = {1: ((0,), (1,)), 2: ((0, 1), (1, 0))}


def is_broken(cone):
    """Tell whether a run breaks the claim of a cone."""
    for many in VALUES:
        if broken_rows(cone.form, many) and broken_way(tracks_of(cone, many), None) is not None:
            return True
    return False


def shortest_break(cone):
    """Return (values, actors) of a shortest run that breaks the claim of a cone, or None."""
    told = None
    most = None
    for many in VALUES:
        if broken_rows(cone.form, many):
            tracks = tracks_of(cone, many)
            way = broken_way(tracks, most)
            if way is not None:
                told = run_of(tracks, way)
                most = len(told[1]) - 1
    return told


def tracks_of(cone, many):
    """Return the tracks of the actors that matter, with so many cells, the writer's first."""
    board = Board(cone, many)
    told = [WriterTrack(board, cone.outlines[0])]
    return told + [ReaderTrack(board, outline) for outline in cone.outlines[1:]]


def broken_way(tracks, most):
    """Return the states of a shortest way to where the claim is broken, or None if there is none.

    most: how many steps it may have; None: any number
    """
    ways = {0: None}
    level = [0]
    steps = 0
    while level and steps != most:
        level = next_level(tracks, level, ways)
        steps += 1
        if level and level[-1] & BROKEN:
            return way_to(ways, level[-1])
    return None


def next_level(tracks, level, ways):
    """Return the states that are first reached by a step from this level; if one is broken, it is the last of them.

    ways: for each state that was reached the state ahead of it; more is added
    """
    # Nearly all of the time goes into these loops, so they ask for no attributes.
    parts = [(track.place[0], track.place[1], track.rows, track) for track in tracks]
    later = []
    for state in level:
        for shift, mask, rows, track in parts:
            place = (state & mask) >> shift
            looks, known = rows[place]
            view = state & looks
            changes = known.get(view)
            if changes is None:
                changes = track.find_changes(place, view)
            for change in changes:
                other = state ^ change
                if other not in ways:
                    ways[other] = state
                    later.append(other)
                    if other & BROKEN:
                        return later
    return later


def way_to(ways, state):
    """Return the states that lead to a state, the first one first."""
    told = []
    while state is not None:
        told.append(state)
        state = ways[state]
    return told[::-1]


def run_of(tracks, way):
    """Return (values, actors) of the run that goes through these states."""
    board = tracks[0].board
    rows = VALUES[board.many]
    values = [rows[0]]
    actors = []
    for before, behind in zip(way, way[1:]):
        # Each step leads its actor to another place, and no other one.
        track = [one for one in tracks if (before ^ behind) & one.place[1]][0]
        actors.append(track.outline.actor)
        if track.outline.actor == WRITER and part(before, track.place) == REST:
            values.append(rows[part(behind, board.begun)])
    return values, actors
