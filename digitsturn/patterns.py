"""By which readings a claim is broken, over one cell with a step and over two cells with a carry.

A row has 1 for each cell of a version from which on the values are turned, 0 for each cell of a version below it.
"""

from digitsturn.forms import NEW, OLD, WHOLE


def broken_rows(form, many):
    """Return for each name of a claim of this form the rows by which it is broken, or () if so many cells break none.

    It is broken if the rows of all its names stand at the same index; by one cell `old <= V` is broken only if the
    round of the turn had ended when the call began, too, which a row cannot tell. Rows of two cells are left out if
    one of these cells breaks the claim without the other one, since this takes fewer steps.
    """
    if many == 1:
        if form == OLD:
            return (((0,),),)
        if form in (NEW, WHOLE):
            # One cell is of one version, and no cell is of a version above `new`.
            return ()
        return ((1,),), ((0,),)
    if form == OLD:
        return (((0, 1),),)
    if form == NEW:
        return (((1, 0),),)
    if form == WHOLE:
        return (((0, 1), (1, 0)),)
    return ((0, 0), (1, 0)), ((0, 1), (1, 1))


def fits_of(rows, many):
    """Return for each cell a pair: to which rows 0 fits in this cell, and to which 1 does, as bits of a number."""
    return [(fits(rows, cell, 0), fits(rows, cell, 1)) for cell in range(many)]


def fits(rows, cell, digit):
    """Return to which rows a digit fits in a cell, as bits of a number."""
    return sum([1 << at for at, row in enumerate(rows) if row[cell] == digit])
