"""What lines do to a state, if they matter."""

from digitsturn.boards import part, with_part
from digitsturn.moves import swept_cell
from digitsturn.texts import NUMBERS


class Act:
    """What a step of an actor at one of its places does.

    mask: the fields of a state that it looks at or changes
    test: a function that tells of a state whether the actor goes to the place `yes`, or else to `no`; None: to `yes`
    change: a function that returns the state behind the step, but for the actor's place; None: it is the same
    yes, no: places; None: nothing is done
    """

    def __init__(self, mask, test, change):
        self.mask = mask
        self.test = test
        self.change = change
        self.yes = None
        self.no = None


def act_of(track, words, done):
    """Return what a line of an actor does, if so many cells of its sweep are done; it does not go anywhere yet."""
    maker = MAKERS[words[0]]
    return maker(track, words, done)


def idle_act():
    """Return what a line does that does not matter."""
    return Act(0, None, None)


def write_act(track, words, done):
    """Return what is done to a cell of a register."""
    board = track.board
    cell = board.cells[words[1]][swept_cell(words[2], board.many, done)][1]
    begun = board.begun[1]
    # No cell is turned before the round of the turn has begun.
    return Act(cell | begun, None, lambda state: state | cell if state & begun else state)


def read_act(track, words, done):
    """Return what is done to the parts of the claim that a reading has."""
    board = track.board
    cell = swept_cell(words[2], board.many, done)
    source = board.cells[words[1]][cell]
    parts = [(field, fits[cell]) for name, field, fits in board.parts if name == words[4]]
    mask = source[1] | sum([field[1] for field, _ in parts])
    return Act(mask, None, lambda state: state_with_cell(state, parts, part(state, source), done))


def state_with_cell(state, parts, digit, done):
    """Return the state behind the reading of a cell with a digit, if so many cells ahead of it are read."""
    for field, fits in parts:
        rows = fits[digit]
        if done > 0:
            rows &= part(state, field)
        state = with_part(state, field, rows)
    return state


def set_act(track, words, done):
    """Return what `set F N` does."""
    flag = track.board.flags[words[1]]
    number = int(words[2])
    return Act(flag[1], None, lambda state: with_part(state, flag, number))


def step_act(track, words, done):
    """Return what `step F` does."""
    flag = track.board.flags[words[1]]
    bound = track.board.cone.layout.bounds[words[1]]
    return Act(flag[1], None, lambda state: with_part(state, flag, (part(state, flag) + 1) % bound))


def look_act(track, words, done):
    """Return what `look F as S` does."""
    flag = track.board.flags[words[1]]
    mark = track.marks[words[3]]
    return Act(flag[1] | mark[1], None, lambda state: with_part(state, mark, part(state, flag)))


def wait_act(track, words, done):
    """Return what `wait F N` does."""
    flag = track.board.flags[words[1]]
    number = int(words[2])
    return Act(flag[1], lambda state: part(state, flag) == number, None)


def if_act(track, words, done):
    """Return what `if S is T` does."""
    mark = mark_field(track, words[1])
    if words[3] in NUMBERS:
        number = int(words[3])
        return Act(mark[1], lambda state: part(state, mark) == number, None)
    other = mark_field(track, words[3])
    return Act(mark[1] | other[1], lambda state: part(state, mark) == part(state, other), None)


def mark_field(track, mark):
    """Return the field of a mark; one that nothing is put into has an empty field, which holds 0."""
    return track.marks.get(mark, (0, 0))


def again_act(track, words, done):
    """Return what `again` does."""
    own = track.own
    return Act(own, None, lambda state: state & ~own)


MAKERS = {
    "write": write_act, "read": read_act, "set": set_act, "step": step_act, "look": look_act, "wait": wait_act,
    "if": if_act, "again": again_act,
}
