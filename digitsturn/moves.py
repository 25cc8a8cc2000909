"""Where a step leads an actor. Digits are not asked for here, since no line looks at them.

The place of an actor within a round or call is a tuple: its next line, how many cells of that line's sweep are
done, and what its marks hold. The place of an actor at rest is None. Flags are a tuple of what they hold.
"""

from digitsturn.texts import NUMBERS

SWEEPS = ("write", "read")


def start(layout, actor):
    """Return the place of an actor whose round or call has just begun, or begins anew."""
    return (layout.first[actor], 0, (0,) * len(layout.marks[actor]))


def move(layout, many, actor, place, flags):
    """Let an actor that is not at rest do a step, with many cells.

    Returns (line, cell, place, flags): the line that was done (None if nothing was), the cell of a sweep, and what
    is the place of the actor and what the flags hold behind the step.
    """
    line, done, marks = place
    words = layout.lines[line]
    if words[0] in SWEEPS:
        return line, swept_cell(words[2], many, done), place_in_sweep(layout, many, place), flags
    if words[0] == "wait" and flag_holds(layout, flags, words[1]) != int(words[2]):
        return None, None, place, flags
    if words[0] == "again":
        return line, None, start(layout, actor), flags
    later = line + 1
    if words[0] == "if" and not is_same(layout.marks[actor], marks, words):
        later = layout.jumps[line]
    marks = marks_behind(layout, actor, marks, flags, words)
    return line, None, place_at(layout, later, marks), flags_behind(layout, flags, words)


def swept_cell(direction, many, done):
    """Return the cell that comes next in a sweep of which some cells are done."""
    if direction == "up":
        return many - 1 - done
    return done


def place_in_sweep(layout, many, place):
    """Return the place behind the next cell of a sweep."""
    line, done, marks = place
    if done + 1 < many:
        return line, done + 1, marks
    return place_at(layout, line + 1, marks)


def place_at(layout, line, marks):
    """Return the place at a line, or None if no line is left there."""
    line = next_line(layout, line)
    if line is None:
        return None
    return line, 0, marks


def next_line(layout, line):
    """Return the line that whoever comes to a line does next, or None if no line is left there."""
    # `else` and `end` take no step: whoever comes to an `else` from above goes to its `end`.
    while line in layout.lines and layout.lines[line][0] in ("else", "end"):
        line = layout.jumps.get(line, line + 1)
    if line not in layout.lines:
        return None
    return line


def flag_holds(layout, flags, flag):
    """Return what a flag holds."""
    return flags[layout.flags.index(flag)]


def flags_behind(layout, flags, words):
    """Return what the flags hold behind a line."""
    if words[0] == "set":
        return put(flags, layout.flags.index(words[1]), int(words[2]))
    if words[0] == "step":
        greater = flag_holds(layout, flags, words[1]) + 1
        return put(flags, layout.flags.index(words[1]), greater % layout.bounds[words[1]])
    return flags


def marks_behind(layout, actor, marks, flags, words):
    """Return what the marks of an actor hold behind a line."""
    if words[0] == "look":
        return put(marks, layout.marks[actor].index(words[3]), flag_holds(layout, flags, words[1]))
    return marks


def is_same(names, marks, words):
    """Tell whether both sides of a line `if S is T` are the same number."""
    return mark_holds(names, marks, words[1]) == mark_holds(names, marks, words[3])


def mark_holds(names, marks, word):
    """Return the number that a word tells, a number itself or a mark."""
    if word in NUMBERS:
        return int(word)
    if word in names:
        return marks[names.index(word)]
    # Nothing is ever put into other marks.
    return 0


def put(row, at, number):
    """Return a row with another number in one place."""
    return row[:at] + (number,) + row[at + 1:]
