"""Where an actor of a search can be, and what its steps do to a state.

The places of an actor are numbers: 0 at rest, and one for each line that takes a step, or for each cell of a sweep.
"""

from digitsturn.acts import act_of, idle_act
from digitsturn.boards import BROKEN, part, with_part
from digitsturn.forms import OLD, THEN, TOGETHER
from digitsturn.moves import SWEEPS, next_line

REST = 0
FIRST = 1


class Track:
    """The places of an actor and its steps.

    place: the field of the actor's place; marks: those of its marks that are asked for
    own: the mask of the fields that are 0 at the beginning and behind an `again`
    begin_mask, end_mask: those of the fields that the beginning and the end of a round or call look at or change
    starts: the first place of each line that takes steps; None stands for the line behind the last one
    acts: what the step of each place does, but for that at rest
    rows: for each place a pair: the mask of all that its step looks at or changes, and a dict that is filled when it
        is asked. For what the mask leaves of a state, the dict has a tuple of numbers: for each state that may be there
        behind the step, the bits that it changes. So what a step does is worked out once, not in each state.
    """

    def __init__(self, board, outline):
        self.board = board
        self.outline = outline
        self.place = board.room(len(outline.lines) * board.many)
        self.marks = {mark: board.room(3) for mark in outline.asked}
        self.own = self.place[1] | sum([field[1] for field in self.marks.values()])
        self.begin_mask = self.place[1]
        self.end_mask = self.own

    def lay(self):
        """Lay out the places and what their steps do."""
        self.starts = {None: REST}
        start = FIRST
        for number, words in self.outline.lines.items():
            if words[0] not in ("else", "end"):
                self.starts[number] = start
                start += self.many_steps(words)
        self.acts = [None]
        for number, words in self.outline.lines.items():
            if number in self.starts:
                self.lay_line(number, words)
        self.rows = [(self.begin_mask, {})] + [(act.mask, {}) for act in self.acts[FIRST:]]

    def many_steps(self, words):
        """Return how many steps a line takes."""
        if words[0] in SWEEPS:
            return self.board.many
        return 1

    def lay_line(self, number, words):
        """Lay out what the steps of a line do."""
        matters = self.board.cone.matters(self.outline, number)
        for done in range(self.many_steps(words)):
            act = act_of(self, words, done) if matters else idle_act()
            act.yes = len(self.acts) + 1
            self.acts.append(act)
            act.mask |= self.place[1]
        act = self.acts[-1]
        act.yes, act.no = self.goals(number, words)
        if REST in (act.yes, act.no):
            act.mask |= self.end_mask

    def goals(self, number, words):
        """Return the places that a line leads to; None: there is no such place."""
        layout = self.board.cone.layout
        if words[0] == "again":
            return FIRST, None
        behind = self.starts[next_line(layout, number + 1)]
        if words[0] == "if":
            return behind, self.starts[next_line(layout, layout.jumps[number])]
        return behind, None

    def find_changes(self, place, view):
        """Return and keep what the row of a place has for a view: what its mask leaves of a state."""
        later = self.begun_states(view) if place == REST else self.later_states(self.acts[place], view)
        told = tuple([view ^ state for state in later])
        self.rows[place][1][view] = told
        return told

    def later_states(self, act, state):
        """Return the states that may be there behind a step: none, if nothing is done."""
        goal = act.yes
        if act.test is not None:
            test = act.test
            if not test(state):
                goal = act.no
        if goal is None:
            return []
        if act.change is not None:
            change = act.change
            state = change(state)
        if goal == REST:
            return [self.rest_state(state)]
        return [with_part(state, self.place, goal)]


class WriterTrack(Track):
    """The places of the writer and its steps."""

    def __init__(self, board, outline):
        Track.__init__(self, board, outline)
        self.begin_mask |= board.begun[1]
        self.tells_end = board.cone.form == OLD and board.greatest is not None
        if self.tells_end:
            self.end_mask |= board.begun[1] | board.greatest[1]
        self.lay()

    def begun_states(self, state):
        """Return the states behind the beginning of a round: it may be that of the turn, once."""
        state = with_part(state, self.place, FIRST)
        begun = self.board.begun[1]
        if state & begun:
            return [state]
        return [state, state | begun]

    def rest_state(self, state):
        """Return the state behind the end of a round."""
        if self.tells_end:
            state = with_part(state, self.board.greatest, part(state, self.board.begun))
        return state & ~self.own


class ReaderTrack(Track):
    """The places of a reader and its steps."""

    def __init__(self, board, outline):
        Track.__init__(self, board, outline)
        cone = board.cone
        self.own |= sum([field[1] for name, field, _ in board.parts if name in outline.reads])
        self.end_mask |= self.own
        # Whether the end of a call may break the claim, and whether it depends on what was ahead of the call.
        self.is_judged = cone.owners[-1] == outline.actor
        self.is_bound = self.is_judged and board.bound is not None
        # Whether it depends on readings of calls of this reader what is ahead of a call.
        self.tells_greatest = cone.form == THEN and cone.owners[0] == outline.actor
        if self.is_bound:
            self.begin_mask |= board.greatest[1] | board.bound[1]
            self.end_mask |= board.bound[1]
        if self.tells_greatest:
            self.end_mask |= board.greatest[1]
        self.lay()

    def begun_states(self, state):
        """Return the states behind the beginning of a call: there is one."""
        if self.is_bound:
            state = with_part(state, self.board.bound, part(state, self.board.greatest))
        return [with_part(state, self.place, FIRST)]

    def rest_state(self, state):
        """Return the state behind the end of a call."""
        board = self.board
        if self.is_judged and self.found_rows(state):
            state |= BROKEN
        if self.tells_greatest:
            rows = part(state, board.greatest) | part(state, board.parts[0][1])
            state = with_part(state, board.greatest, rows)
        if self.is_bound:
            state = with_part(state, board.bound, 0)
        return state & ~self.own

    def found_rows(self, state):
        """Return the rows by which the claim is broken if a call ends in this state."""
        board = self.board
        rows = part(state, board.parts[-1][1])
        if board.cone.form == TOGETHER:
            rows &= part(state, board.parts[0][1])
        if self.is_bound:
            rows &= part(state, board.bound)
        return rows
