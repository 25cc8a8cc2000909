"""Reads the texts of claims."""

from digitsturn.errors import BadClaim, NoReading, NotTogether
from digitsturn.texts import is_name

OLD = "old <= V"
NEW = "V <= new"
TOGETHER = "V <= W"
THEN = "V then W"
WHOLE = "whole V"


def read_claim(layout, text):
    """Return (form, names) of a claim; raises BadClaim(), NoReading(name), NotTogether()."""
    form, names = split_claim(text.split(" "))
    for name in names:
        if not is_name(name):
            raise BadClaim()
    for name in names:
        if name not in layout.owners:
            raise NoReading(name)
    if form == TOGETHER and not are_together(layout, names):
        raise NotTogether()
    return form, names


def split_claim(words):
    """Return the form of a claim and the words that stand where its names do."""
    if len(words) == 2 and words[0] == "whole":
        return WHOLE, (words[1],)
    if len(words) != 3 or words[1] not in ("<=", "then"):
        raise BadClaim()
    if words[1] == "then":
        return THEN, (words[0], words[2])
    if words[0] == "old":
        return OLD, (words[2],)
    if words[2] == "new":
        return NEW, (words[0],)
    return TOGETHER, (words[0], words[2])


def are_together(layout, names):
    """Tell whether two readings are different ones of the same reader."""
    return names[0] != names[1] and layout.owners[names[0]] == layout.owners[names[1]]
