"""Plans: worlds in which directions of sweeps and lines are left open, and what of them must be chosen."""

from digitsturn.claims import holds
from digitsturn.errors import BadChoice, BadPlan, BadWorld
from digitsturn.forms import read_claim
from digitsturn.layouts import read_layout
from digitsturn.moves import SWEEPS
from digitsturn.texts import lines_of
from digitsturn.worlds import World

MOST_WORDS = 8
# What may be chosen for a word, in ascending order.
CHOICES = {"any": ("down", "up"), "perhaps": ("with", "without")}
# The lines that may have `perhaps` ahead of them.
OPTIONAL = ("write", "read", "set", "step", "look", "wait", "again")


def split_line(line):
    """Return the words `perhaps` and `any` of a line that stand where they can, and the line's other words.

    In the place of `any`, the other words have `up`.
    """
    words = line.split(" ")
    found = []
    if words[0] == "perhaps" and len(words) > 1 and words[1] in OPTIONAL:
        found.append("perhaps")
        words = words[1:]
    if words[0] in SWEEPS and len(words) > 2 and words[2] == "any":
        found.append("any")
        words[2] = "up"
    return found, words


def split_lines(text):
    """Return (found, words) as above for each line; from the ninth word on, words are left where they stand."""
    told = []
    many = 0
    for line in lines_of(text):
        found, words = split_line(line)
        many += len(found)
        if many > MOST_WORDS:
            found, words = [], line.split(" ")
        told.append((found, words))
    return told


def read_plain(rows):
    """Return the layout of the world without the words that were found; raises BadPlan(line)."""
    # A word that was left where it cannot stand is wrong in a world, too: no name and no form has it.
    try:
        return read_layout("\n".join([" ".join(words) for _, words in rows]))
    except BadWorld as error:
        raise BadPlan(error.line) from None


def chosen_text(rows, choice):
    """Return the text of the world of a choice that has a word for each that was found."""
    told = []
    at = 0
    for found, words in rows:
        chosen = choice[at:at + len(found)]
        at += len(found)
        if "without" in chosen:
            continue
        if "any" in found:
            words = words[:2] + [chosen[-1]] + words[3:]
        told.append(" ".join(words))
    return "\n".join(told)


class Plan:
    """A plan, read from its text. It never changes."""

    def __init__(self, text):
        self.rows = split_lines(text)
        self.layout = read_plain(self.rows)
        self.text = text
        self.places = tuple([
            (number, word) for number, (found, _) in enumerate(self.rows, start=1) for word in found
        ])

    def choices(self):
        """Return all possible choices in ascending order."""
        told = [()]
        for _, word in self.places:
            told = [choice + (chosen,) for choice in told for chosen in CHOICES[word]]
        return [choice for choice in told if self.is_possible(choice)]

    def is_possible(self, choice):
        """Tell whether a choice gives a world."""
        try:
            self.world(choice)
        except BadChoice:
            return False
        return True

    def world(self, choice):
        """Return the world of a choice; raises BadChoice()."""
        if len(choice) != len(self.places):
            raise BadChoice()
        for (_, word), chosen in zip(self.places, choice):
            if chosen not in CHOICES[word]:
                raise BadChoice()
        try:
            return World(chosen_text(self.rows, choice))
        except BadWorld:
            raise BadChoice() from None


def safe(plan, claims):
    """Return the safe choices in ascending order; raises BadClaim(), NoReading(name), NotTogether()."""
    names = []
    for claim in claims:
        names += read_claim(plan.layout, claim)[1]
    return [choice for choice in plan.choices() if is_safe(plan.world(choice), claims, names)]


def is_safe(world, claims, names):
    """Tell whether a world has all these readings and keeps all claims."""
    for name in names:
        if name not in world.readings:
            return False
    for claim in claims:
        if not holds(world, claim):
            return False
    return True


def least(plan, claims):
    """Return the least safe choices in ascending order; raises BadClaim(), NoReading(name), NotTogether()."""
    told = safe(plan, claims)
    return [choice for choice in told if not any([has_less(other, choice) for other in told])]


def has_less(one, other):
    """Tell whether a choice has the same directions as another one and `with` at fewer of the same places."""
    if one == other:
        return False
    pairs = list(zip(one, other))
    return all([few == many or (few, many) == ("without", "with") for few, many in pairs])
