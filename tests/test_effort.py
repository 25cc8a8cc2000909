"""Points 2, 8, 10, 12 and 13: answers that must come quickly, and what they are.

Time is not measured, since it differs from machine to machine: the calls are counted that an answer takes.
"""

import itertools
import sys
import unittest

from digitsturn.claims import broken_by, claims_of, holds, kept_claims
from digitsturn.plans import Plan, least, safe
from digitsturn.worlds import World


def lines(*rows):
    return "\n".join(rows)


TRIES = World(lines(
    "flag f 4", "register x", "writer", "step f", "write x up", "step f", "reader r", "look f as a", "read x down as v",
    "read x up as w", "look f as b", "if a is b", "else", "again", "end"))
FOUR = World(lines(
    "register x", "register y", "writer", "write x up", "write y down", "reader r", "read y up as v", "read x down as w",
    "reader s", "read x up as p", "read y up as q"))
TWO = World(lines(
    "register x", "register y", "writer", "write x up", "write y down", "reader r", "read y up as v", "reader s",
    "read x down as w"))
CHOSEN = Plan(lines(
    "register x", "register y", "writer", "perhaps write x any", "write y any", "reader r", "read y any as v",
    "perhaps read x any as w"))


def calls_of(asked, *arguments):
    """Return how many calls of functions and methods a call takes."""
    told = [0]

    def count(frame, event, argument):
        if event in ("call", "c_call"):
            told[0] += 1

    before = sys.getprofile()
    sys.setprofile(count)
    try:
        asked(*arguments)
    finally:
        sys.setprofile(before)
    return told[0]


def lengths(made):
    """Return how many steps the runs have that break claims, by their claims."""
    told = {claim: broken_by(made, claim) for claim in claims_of(made)}
    return {claim: len(found[1]) for claim, found in told.items() if found is not None}


class AnswersTest(unittest.TestCase):
    def check(self, made, kept, broken):
        self.assertEqual(kept_claims(made), kept)
        self.assertEqual([claim for claim in claims_of(made) if holds(made, claim)], kept)
        wanted = {claim: length for length, claims in broken.items() for claim in claims}
        self.assertEqual(lengths(made), wanted)
        self.assertEqual(sorted(kept + list(wanted)), sorted(claims_of(made)))

    def test_a_reader_that_tries_again(self):
        self.check(TRIES, ["v <= new"], {
            9: ["w <= v"],
            11: ["old <= v", "whole v", "old <= w", "whole w", "v <= w"],
            12: ["w <= new"],
            19: ["v then v", "v then w", "w then v", "w then w"],
        })

    def test_two_readers_of_two_registers_each(self):
        self.check(FOUR, ["old <= v", "w <= new", "old <= q"], {
            5: ["w <= v", "p <= q"],
            6: ["q <= p"],
            7: ["old <= w", "whole w", "old <= p", "whole p", "v <= w"],
            8: ["p <= new", "w then v", "w then q", "p then v", "p then q"],
            9: ["v <= new", "whole v", "q <= new", "whole q"],
            12: ["v then w", "v then p", "w then w", "w then p", "p then w", "p then p", "q then w", "q then p"],
            15: ["v then v", "v then q", "q then v", "q then q"],
        })

    def test_two_readers_of_one_register_each(self):
        self.check(TWO, ["old <= v", "w <= new"], {
            5: ["old <= w", "whole w"], 6: ["w then v"], 7: ["v <= new", "whole v"], 8: ["v then w", "w then w"],
            11: ["v then v"],
        })

    def test_a_plan_of_six_words(self):
        # Whether x is written or read, and how, does not matter.
        told = [("with", x, "up", "down", *rest) for x in ("down", "up")
                for rest in itertools.product(("with", "without"), ("down", "up"))]
        told += [("without",) + choice[1:] for choice in told]
        self.assertEqual(safe(CHOSEN, ["v <= new"]), told)
        self.assertEqual(least(CHOSEN, ["v <= new"]), [
            ("without", x, "up", "down", "without", other) for x in ("down", "up") for other in ("down", "up")])


class EffortTest(unittest.TestCase):
    """Each limit is below a tenth of what a search took that led a run for each state."""

    def check(self, limit, asked, *arguments):
        self.assertLess(calls_of(asked, *arguments), limit)

    def test_kept_claims(self):
        self.check(200_000, kept_claims, TRIES)
        self.check(200_000, kept_claims, FOUR)
        self.check(16_000, kept_claims, TWO)

    def test_holds(self):
        self.check(5_000, holds, FOUR, "w <= new")
        self.check(20_000, holds, TRIES, "v <= new")

    def test_broken_by(self):
        self.check(200_000, lengths, TRIES)
        self.check(200_000, lengths, FOUR)
        self.check(16_000, lengths, TWO)

    def test_safe_and_least(self):
        self.check(20_000, safe, CHOSEN, ["v <= new"])
        self.check(20_000, least, CHOSEN, ["v <= new"])

    def test_least_of_many_safe_choices(self):
        made = Plan(lines("register x", "writer", "write x up", "reader r", "read x down as v", *["perhaps again"] * 8))
        self.check(100_000, least, made, ["v <= new"])
        self.assertEqual(least(made, ["v <= new"]), [("without",) * 8])
        self.assertEqual(len(safe(made, ["v <= new"])), 256)


if __name__ == "__main__":
    unittest.main()
