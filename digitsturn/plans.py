"""Plans: worlds in which directions of sweeps and lines are left open, and what of them must be chosen."""

from digitsturn.breaks import is_broken
from digitsturn.cones import Cone, outlines_of
from digitsturn.errors import BadChoice, BadPlan, BadWorld
from digitsturn.forms import read_claim
from digitsturn.layouts import read_layout
from digitsturn.moves import SWEEPS
from digitsturn.texts import WRITER, lines_of
from digitsturn.worlds import World

MOST_WORDS = 8
# What may be chosen for a word, in ascending order.
CHOICES = {"any": ("down", "up"), "perhaps": ("with", "without")}
# The lines that may have `perhaps` ahead of them.
OPTIONAL = ("write", "read", "set", "step", "look", "wait", "again")


def split_line(line):
    """Return the words `perhaps` and `any` of a line that stand where they can, and the line's other words.

    In the place of `any`, the other words have `up`.
    """
    words = line.split(" ")
    found = []
    if words[0] == "perhaps" and len(words) > 1 and words[1] in OPTIONAL:
        found.append("perhaps")
        words = words[1:]
    if words[0] in SWEEPS and len(words) > 2 and words[2] == "any":
        found.append("any")
        words[2] = "up"
    return found, words


def split_lines(text):
    """Return (found, words) as above for each line; from the ninth word on, words are left where they stand."""
    told = []
    many = 0
    for line in lines_of(text):
        found, words = split_line(line)
        many += len(found)
        if many > MOST_WORDS:
            found, words = [], line.split(" ")
        told.append((found, words))
    return told


def read_plain(rows):
    """Return the layout of the world without the words that were found; raises BadPlan(line)."""
    # A word that was left where it cannot stand is wrong in a world, too: no name and no form has it.
    try:
        return read_layout("\n".join([" ".join(words) for _, words in rows]))
    except BadWorld as error:
        raise BadPlan(error.line) from None


def chosen_text(rows, choice):
    """Return the text of the world of a choice that has a word for each that was found."""
    told = []
    at = 0
    for found, words in rows:
        chosen = choice[at:at + len(found)]
        at += len(found)
        if "without" in chosen:
            continue
        if "any" in found:
            words = words[:2] + [chosen[-1]] + words[3:]
        told.append(" ".join(words))
    return "\n".join(told)


def optional_sweeps(rows):
    """Return for each actor all of whose sweeps may be left out where the words `perhaps` of these lie in a choice."""
    told = []
    at = 0
    for found, words in rows:
        if words[0] in (WRITER, "reader"):
            told.append([])
        elif words[0] in SWEEPS:
            told[-1].append(at if "perhaps" in found else None)
        at += len(found)
    return [places for places in told if None not in places]


class Plan:
    """A plan, read from its text. It never changes."""

    def __init__(self, text):
        self.rows = split_lines(text)
        self.layout = read_plain(self.rows)
        self.text = text
        self.sweeps = optional_sweeps(self.rows)
        self.places = tuple([
            (number, word) for number, (found, _) in enumerate(self.rows, start=1) for word in found
        ])

    def choices(self):
        """Return all possible choices in ascending order."""
        told = [()]
        for _, word in self.places:
            told = [choice + (chosen,) for choice in told for chosen in CHOICES[word]]
        return [choice for choice in told if self.is_possible(choice)]

    def is_possible(self, choice):
        """Tell whether a choice with a right word for each place gives a world."""
        # A line that is left out takes nothing from the others that they need, but each actor must have a sweep.
        return all([any([choice[at] == "with" for at in places]) for places in self.sweeps])

    def world(self, choice):
        """Return the world of a choice; raises BadChoice()."""
        if len(choice) != len(self.places):
            raise BadChoice()
        for (_, word), chosen in zip(self.places, choice):
            if chosen not in CHOICES[word]:
                raise BadChoice()
        try:
            return World(chosen_text(self.rows, choice))
        except BadWorld:
            raise BadChoice() from None


def safe(plan, claims):
    """Return the safe choices in ascending order; raises BadClaim(), NoReading(name), NotTogether()."""
    forms = [read_claim(plan.layout, claim) for claim in claims]
    # Many choices give the same text, and many texts differ only in lines that do not matter for a claim.
    texts = {}
    digests = {}
    told = []
    for choice in plan.choices():
        text = chosen_text(plan.rows, choice)
        if text not in texts:
            texts[text] = is_safe(read_layout(text), forms, digests)
        if texts[text]:
            told.append(choice)
    return told


def is_safe(layout, forms, digests):
    """Tell whether a world has all readings of some claims and keeps all of them.

    digests: whether a claim is broken, by the digest of what matters for it; more is added
    """
    for _, names in forms:
        if not all([name in layout.owners for name in names]):
            return False
    outlines = outlines_of(layout)
    for form in forms:
        cone = Cone(layout, outlines, form)
        digest = cone.digest()
        if digest not in digests:
            digests[digest] = is_broken(cone)
        if digests[digest]:
            return False
    return True


def least(plan, claims):
    """Return the least safe choices in ascending order; raises BadClaim(), NoReading(name), NotTogether()."""
    told = safe(plan, claims)
    taken = {}
    for choice in told:
        taken.setdefault(directions(choice), []).append(taken_lines(choice))
    return [choice for choice in told if is_least(taken_lines(choice), taken[directions(choice)])]


def directions(choice):
    """Return the directions of a choice."""
    return tuple([word for word in choice if word in CHOICES["any"]])


def taken_lines(choice):
    """Return where a choice has the word `with`, as bits of a number."""
    return sum([1 << at for at, word in enumerate(choice) if word == "with"])


def is_least(lines, others):
    """Tell whether none of the others has fewer of the same lines."""
    return not any([other != lines and other & lines == other for other in others])
