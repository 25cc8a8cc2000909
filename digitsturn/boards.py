"""States of a search as numbers: which parts they have, and where each part lies in the number.

A field is where a part lies: a pair (shift, mask). The mask leaves only this part of a state, the shift tells its
lowest bit. In the state 0 nothing is done yet.
"""

from digitsturn.forms import OLD, THEN
from digitsturn.patterns import broken_rows, fits_of

# This bit of a state tells that the claim is broken.
BROKEN = 1


def part(state, field):
    """Return what a field of a state holds."""
    return (state & field[1]) >> field[0]


def with_part(state, field, number):
    """Return a state with another number in a field."""
    return state & ~field[1] | number << field[0]


class Board:
    """The fields of a state, but for those of which only one actor knows.

    many: how many cells there are
    begun: whether the round of the turn has begun
    flags, cells: what the flags that matter hold, and which cells of registers are turned
    parts: for each name of the claim (name, field, fits); the field tells the rows by which the claim is broken and to
        which all cells fit that were read, as bits of a number
    greatest: for `old <= V` whether the round of the turn has ended, for `V then W` the rows to which a V of a call
        fits that has ended; for other claims, and where it is not asked for, None
    bound: what that was when the present call of the reader of V, or of W, began
    """

    def __init__(self, cone, many):
        self.cone = cone
        self.many = many
        self.used = BROKEN.bit_length()
        self.begun = self.room(1)
        self.flags = {flag: self.room(cone.layout.bounds[flag] - 1) for flag in cone.flags}
        self.cells = {name: [self.room(1) for _ in range(many)] for name in cone.registers}
        rows = broken_rows(cone.form, many)
        all_rows = (1 << len(rows[0])) - 1
        self.parts = [(name, self.room(all_rows), fits_of(row, many)) for name, row in zip(cone.names, rows)]
        self.greatest = None
        self.bound = None
        if cone.form == THEN or cone.form == OLD and many == 1:
            self.greatest = self.room(all_rows)
            self.bound = self.room(all_rows)

    def room(self, most):
        """Return a new field, for numbers from 0 to this one."""
        shift = self.used
        self.used += most.bit_length()
        return shift, (1 << self.used) - (1 << shift)
