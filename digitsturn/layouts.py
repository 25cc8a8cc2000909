"""Reads the text of a world: what its lines say, and where its actors go on."""

from digitsturn.errors import BadWorld
from digitsturn.texts import DIRECTIONS, NUMBERS, WRITER, is_name, lines_of

MOST_LINES = 40
MOST_FLAGS = 3
MOST_REGISTERS = 2
MOST_READERS = 2
MOST_BLOCKS = 3
BOUNDS = ("2", "3", "4")


class Layout:
    """What the lines of a world say. Once the text is read, it never changes.

    lines: the words of each line of an actor, by its number; no other lines, so an actor's lines end at a gap
    first: the number of the first line of each actor
    owners: the reader of each reading
    bounds: for each flag the number that it never reaches
    marks: for each actor the marks that something may be put into
    jumps: for an `if` the line to go to if its marks differ, for an `else` its `end`
    """

    def __init__(self):
        self.flags = []
        self.registers = []
        self.readers = []
        self.readings = []
        self.owners = {}
        self.lines = {}
        self.first = {}
        self.bounds = {}
        self.marks = {}
        self.jumps = {}
        # The actor whose lines are being read, whether it has a sweep yet, and its open blocks:
        # for each of them the line that still waits for its jump, and whether `else` was there.
        self.actor = None
        self.has_sweep = False
        self.blocks = []


def is_new_name(layout, word):
    """Tell whether a word is a name that nothing in the world has yet."""
    taken = layout.flags + layout.registers + layout.readers + layout.readings
    return is_name(word) and word not in taken


def is_complete(layout):
    """Tell whether nothing is lacking to the lines of the latest actor."""
    return layout.has_sweep and not layout.blocks


def begin_actor(layout, number, actor):
    """Let the lines behind this one be those of an actor."""
    layout.actor = actor
    layout.first[actor] = number + 1
    layout.marks[actor] = []
    layout.has_sweep = False


def read_flag(layout, number, words):
    """Read a line `flag F M`."""
    if layout.registers or len(layout.flags) == MOST_FLAGS or len(words) != 3:
        return False
    if not is_new_name(layout, words[1]) or words[2] not in BOUNDS:
        return False
    layout.flags.append(words[1])
    layout.bounds[words[1]] = int(words[2])
    return True


def read_register(layout, number, words):
    """Read a line `register X`."""
    if layout.actor is not None or len(layout.registers) == MOST_REGISTERS:
        return False
    if len(words) != 2 or not is_new_name(layout, words[1]):
        return False
    layout.registers.append(words[1])
    return True


def read_writer(layout, number, words):
    """Read the line `writer`."""
    if layout.actor is not None or not layout.registers or len(words) != 1:
        return False
    begin_actor(layout, number, WRITER)
    return True


def read_reader(layout, number, words):
    """Read a line `reader R`."""
    if not is_complete(layout) or len(layout.readers) == MOST_READERS:
        return False
    if len(words) != 2 or not is_new_name(layout, words[1]):
        return False
    begin_actor(layout, number, words[1])
    layout.readers.append(words[1])
    return True


def read_write(layout, number, words):
    """Read a line `write X up` or `write X down`."""
    if layout.actor != WRITER or len(words) != 3:
        return False
    if words[1] not in layout.registers or words[2] not in DIRECTIONS:
        return False
    layout.has_sweep = True
    return True


def read_read(layout, number, words):
    """Read a line `read X up as V` or `read X down as V`."""
    if layout.actor == WRITER or len(words) != 5:
        return False
    if words[1] not in layout.registers or words[2] not in DIRECTIONS:
        return False
    if words[3] != "as" or not is_new_name(layout, words[4]):
        return False
    layout.readings.append(words[4])
    layout.owners[words[4]] = layout.actor
    layout.has_sweep = True
    return True


def read_flag_and_number(layout, number, words):
    """Read a line `set F N` or `wait F N`."""
    if len(words) != 3 or words[1] not in layout.flags:
        return False
    return words[2] in NUMBERS[:layout.bounds[words[1]]]


def read_step(layout, number, words):
    """Read a line `step F`."""
    return len(words) == 2 and words[1] in layout.flags


def read_look(layout, number, words):
    """Read a line `look F as S`."""
    if len(words) != 4 or words[1] not in layout.flags:
        return False
    if words[2] != "as" or not is_name(words[3]):
        return False
    if words[3] not in layout.marks[layout.actor]:
        layout.marks[layout.actor].append(words[3])
    return True


def read_if(layout, number, words):
    """Read a line `if S is T`."""
    if len(words) != 4 or len(layout.blocks) == MOST_BLOCKS:
        return False
    if not is_name(words[1]) or words[2] != "is":
        return False
    if words[3] not in NUMBERS and not is_name(words[3]):
        return False
    layout.blocks.append((number, False))
    return True


def read_else(layout, number, words):
    """Read the line `else`."""
    if len(words) != 1 or not layout.blocks:
        return False
    start, has_else = layout.blocks[-1]
    if has_else:
        return False
    layout.jumps[start] = number + 1
    layout.blocks[-1] = (number, True)
    return True


def read_end(layout, number, words):
    """Read the line `end`."""
    if len(words) != 1 or not layout.blocks:
        return False
    start, _ = layout.blocks.pop()
    layout.jumps[start] = number
    return True


def read_again(layout, number, words):
    """Read the line `again`."""
    return layout.actor != WRITER and len(words) == 1


HEADS = {"flag": read_flag, "register": read_register, "writer": read_writer, "reader": read_reader}
FORMS = {
    "write": read_write, "read": read_read, "set": read_flag_and_number, "wait": read_flag_and_number,
    "step": read_step, "look": read_look, "if": read_if, "else": read_else, "end": read_end, "again": read_again,
}


def read_line(layout, number, words):
    """Read a line into the layout, and tell whether it is right."""
    if words[0] in HEADS:
        head = HEADS[words[0]]
        return head(layout, number, words)
    if words[0] not in FORMS or layout.actor is None:
        return False
    form = FORMS[words[0]]
    if not form(layout, number, words):
        return False
    layout.lines[number] = words
    return True


def read_layout(text):
    """Read the text of a world; raises BadWorld(line)."""
    layout = Layout()
    lines = lines_of(text)
    for number, line in enumerate(lines, start=1):
        if number > MOST_LINES or not read_line(layout, number, tuple(line.split(" "))):
            raise BadWorld(number)
    if not layout.readers or not is_complete(layout):
        raise BadWorld(len(lines) + 1)
    return layout
