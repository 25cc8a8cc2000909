"""What of a world matters for a claim."""

from digitsturn.texts import WRITER


class Outline:
    """What the lines of an actor look at and change, whatever the claim is.

    lines: the words of its lines, by their numbers
    reads: the line of each of its readings
    asked: the last line that asks for a mark, for each mark that something is put into and that is asked for
    looked: the flags that tell where the actor goes on
    changed: the flags that it puts something into
    """

    def __init__(self, layout, actor):
        self.actor = actor
        self.lines = lines_of_actor(layout, actor)
        self.reads = {words[4]: number for number, words in self.lines.items() if words[0] == "read"}
        self.asked = asked_marks(self.lines, layout.marks[actor])
        self.looked = [words[1] for number, words in self.lines.items() if is_look(self.asked, number, words)]
        self.changed = [words[1] for words in self.lines.values() if words[0] in ("set", "step")]


def lines_of_actor(layout, actor):
    """Return the words of an actor's lines, by their numbers."""
    told = {}
    number = layout.first[actor]
    while number in layout.lines:
        told[number] = layout.lines[number]
        number += 1
    return told


def asked_marks(lines, marks):
    """Return the last line that asks for a mark, for each of these marks that is asked for."""
    told = {}
    for number, words in lines.items():
        if words[0] == "if":
            for word in (words[1], words[3]):
                if word in marks:
                    told[word] = number
    return told


def is_look(asked, number, words):
    """Tell whether it matters for the lines to come what a flag holds at this line."""
    # No line but `again` leads back, and it puts all marks to 0.
    return words[0] == "wait" or words[0] == "look" and number < asked.get(words[3], 0)


def outlines_of(layout):
    """Return the outline of each actor of a world."""
    return {actor: Outline(layout, actor) for actor in layout.first}


class Cone:
    """What of a world matters for a claim. Without the rest, the same calls of the claim's readers are possible.

    form, names: the claim; owners, registers: for each of the names the reader and the register that is read
    outlines: those of the writer, of these readers, and of a reader that changes a flag that matters
    flags: those that one of these actors looks at
    """

    def __init__(self, layout, outlines, claim):
        self.layout = layout
        self.form, self.names = claim
        self.owners = [layout.owners[name] for name in self.names]
        reads = [outlines[owner].reads[name] for name, owner in zip(self.names, self.owners)]
        self.registers = [layout.lines[number][1] for number in reads]
        self.outlines = [outlines[WRITER]] + [outlines[name] for name in layout.readers if name in self.owners]
        self.flags = []
        self.take_flags()
        # At most one reader is not there yet.
        for name in layout.readers:
            if name not in self.owners and self.has_flag(outlines[name].changed):
                self.outlines.append(outlines[name])
                self.take_flags()

    def take_flags(self):
        """Take in each flag that an actor looks at."""
        looked = [flag for outline in self.outlines for flag in outline.looked]
        self.flags = [flag for flag in self.layout.flags if flag in looked]

    def has_flag(self, flags):
        """Tell whether one of these flags matters."""
        return any([flag in self.flags for flag in flags])

    def matters(self, outline, number):
        """Tell whether a line of an actor does more than take steps."""
        words = outline.lines[number]
        if words[0] == "write":
            return words[1] in self.registers
        if words[0] == "read":
            return words[4] in self.names
        if words[0] in ("set", "step"):
            return words[1] in self.flags
        if words[0] == "look":
            return is_look(outline.asked, number, words)
        return True

    def digest(self):
        """Return a tuple that is the same only for claims that hold, or do not, for the same reasons."""
        lines = [
            tuple([words for number, words in outline.lines.items() if self.matters(outline, number)])
            for outline in self.outlines
        ]
        bounds = [self.layout.bounds[flag] for flag in self.flags]
        return self.form, self.names, tuple(lines), tuple(self.flags), tuple(bounds)
