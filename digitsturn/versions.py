"""Readings that are made of several versions, and their order for all rising values."""

from digitsturn.errors import BadVersions
from digitsturn.rising import checked_values


def reading(values, versions):
    """Return the digits of the cells in these versions; raises BadValues(index), BadVersions()."""
    rows = checked_values(values)
    if len(versions) != len(rows[0]):
        raise BadVersions()
    for version in versions:
        if not 0 <= version < len(rows):
            raise BadVersions()
    return tuple([rows[version][cell] for cell, version in enumerate(versions)])


def is_at_most(one, other):
    """Tell whether the first reading is at most the other one for all rising values; raises BadVersions()."""
    check_lengths(one, other)
    return fault(one, other) is None


def shown(one, other):
    """Return values by which the first reading is above the other one, or None; raises BadVersions()."""
    check_lengths(one, other)
    found = fault(one, other)
    if found is None:
        return None
    cells, version = found
    last = max(max(one), max(other))
    return turned_values(len(one), cells, version, last)


def check_lengths(one, other):
    """Raise BadVersions() if two lists of versions are not of the same number of cells."""
    if len(one) != len(other) or len(one) == 0:
        raise BadVersions()


def turned_values(many, cells, version, last):
    """Return values of versions up to the last one: only zeros, but for the given cells.

    One cell has 0 below the version and 1 from there on; of two cells the other one has 1 below it and 0 from
    there on, as in a carry.
    """
    below = [0] * many
    above = [0] * many
    above[cells[0]] = 1
    if len(cells) == 2:
        below[cells[1]] = 1
    return [tuple(below)] * version + [tuple(above)] * (last + 1 - version)


def fault(one, other):
    """Return (cells, version), a turn by which the first reading is above the other one, or None."""
    for cell in range(len(one)):
        if one[cell] > other[cell]:
            return (cell,), one[cell]
    for small in range(len(one)):
        for great in range(small):
            version = carry_version(one, other, great, small)
            if version is not None:
                return (great, small), version
    return None


def carry_version(one, other, great, small):
    """Return the version of a carry between two cells that puts the first reading above the other one, or None.

    In each cell the first reading is of a version that is at most the other one's.
    """
    if one[small] == other[small]:
        return None
    if one[great] > one[small]:
        # The first reading gets 11 then, the other one 10.
        return one[small] + 1
    if other[small] > other[great]:
        # The first reading gets 01 then, the other one 00.
        return other[small]
    return None
