"""Checks that values are rising."""

from digitsturn.errors import BadValues


def checked_values(values):
    """Return the values as a new list of tuples; raises BadValues(index)."""
    rows = [tuple(value) for value in values]
    if not rows or not rows[0]:
        raise BadValues(0)
    for at in range(1, len(rows)):
        if len(rows[at]) != len(rows[at - 1]) or rows[at] < rows[at - 1]:
            raise BadValues(at)
    return rows
