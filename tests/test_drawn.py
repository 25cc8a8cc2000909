"""Points 8, 10 and 12: claims of drawn worlds, compared with a search through all states of the whole world."""

import unittest

from digitsturn.claims import broken_by, claims_of, holds, kept_claims
from digitsturn.worlds import World

from everystate import TooMany, shortest_length
from model import Maker
from test_claims import GREATEST, ROUNDS, breaks, steps_ended


class NearMaker(Maker):
    """Makes worlds as one writes them: flags around sweeps, and readings that are begun anew."""

    def text(self):
        pick = self.random
        self.flags = {name: pick.randint(2, 4) for name in "fg"[:pick.randint(0, 2)]}
        self.registers = ["x", "y"][:pick.randint(1, 2)]
        self.names = iter("abcdehij")
        self.readers = ["ra", "rb"][:pick.randint(1, 2)]
        rows = [f"flag {name} {bound}" for name, bound in self.flags.items()]
        rows += [f"register {name}" for name in self.registers] + ["writer"] + self.part(self.write, "set f 0")
        for name in self.readers:
            rows += ["reader " + name] + self.part(self.read, "again")
        return "\n".join(rows)

    def part(self, sweep, last):
        pick = self.random
        rows = [sweep()] if pick.random() < 0.3 else []
        for _ in range(pick.randint(1, 2)):
            rows += [self.flag_line() for _ in range(pick.randint(0, 2)) if self.flags] + [sweep()]
        if self.flags and pick.random() < 0.6:
            rows += [self.flag_line(), f"if {pick.choice('st')} is {pick.choice('01st')}", self.flag_line(), "else"]
            rows += [last if "f" in self.flags else sweep(), "end"]
        return rows


class Compared(unittest.TestCase):
    def check(self, made, most):
        """Compare all claims; return how many were kept and how many were broken."""
        kept, broken = [], 0
        for claim in claims_of(made):
            length = shortest_length(made, claim, most)
            told = broken_by(made, claim)
            self.assertIs(holds(made, claim), length is None, (claim, made.text))
            if length is None:
                kept.append(claim)
                self.assertIsNone(told, (claim, made.text))
                continue
            broken += 1
            self.assertEqual(len(told[1]), length, (claim, made.text))
            self.assertTrue(breaks(claim, told[0], steps_ended(made, *told)), (claim, made.text))
        self.assertEqual(kept_claims(made), kept)
        return len(kept), broken


class DrawnTest(Compared):
    def check_many(self, kind, seeds):
        kept = broken = 0
        for seed in seeds:
            made = World(kind(seed).text())
            if len(claims_of(made)) > 40:
                continue
            try:
                found = self.check(made, 500)
            except TooMany:
                continue
            kept, broken = kept + found[0], broken + found[1]
        return kept, broken

    def test_worlds_of_all_forms(self):
        kept, broken = self.check_many(Maker, range(100, 170))
        self.assertGreater(min(kept, broken), 60)

    def test_worlds_as_one_writes_them(self):
        kept, broken = self.check_many(NearMaker, range(60))
        self.assertGreater(min(kept, broken), 100)

    def test_worlds_with_long_runs(self):
        self.check(GREATEST, 3000)
        self.check(ROUNDS, 3000)


class OthersTest(Compared):
    """Which of the other actors, flags and lines matter for a claim."""

    def world(self, *rows):
        made = World("\n".join(rows))
        self.check(made, 6000)
        return made

    def test_a_reader_that_changes_nothing(self):
        rows = ("flag f 2", "register x", "writer", "write x up", "step f", "reader r", "read x down as v", "reader q")
        made = self.world(*rows, "wait f 1", "read x up as w", "look f as s", "if s is 0", "again", "end")
        self.assertTrue(holds(made, "v <= new"))

    def test_a_reader_that_changes_a_flag_nobody_looks_at(self):
        made = self.world("flag f 2", "register x", "writer", "write x up", "reader r", "read x down as v", "step f",
                          "reader q", "set f 1", "read x up as w")
        self.assertTrue(holds(made, "v <= new"))
        self.assertEqual(len(broken_by(made, "v then w")[1]), 10)

    def test_a_reader_that_changes_a_flag_of_the_writer(self):
        rows = ("flag f 2", "register x", "register y", "writer", "wait f 1", "write x up", "write y up", "reader r",
                "read x up as v", "reader q", "read y up as w")
        closed = self.world(*rows)
        self.assertEqual([claim for claim in claims_of(closed) if not holds(closed, claim)], [])
        opened = self.world(*rows, "set f 1")
        self.assertFalse(holds(opened, "whole v"))

    def test_a_reader_that_waits_for_what_another_one_changes(self):
        # For v matters f, so q matters, so g matters, so that the writer sets g does.
        rows = ("flag f 2", "flag g 2", "register x", "register y", "writer", "write x up", "reader r", "wait f 1",
                "read y up as v", "reader q", "wait g 1", "set f 1", "read x up as w")
        closed = self.world(*rows)
        self.assertEqual([claim for claim in claims_of(closed) if "v" in claim and not holds(closed, claim)], [])
        opened = self.world(*rows[:6], "set g 1", *rows[6:])
        self.assertFalse(holds(opened, "old <= v"))
        self.assertIn("q", broken_by(opened, "old <= v")[1])

    def test_marks_that_are_asked_for_too_early(self):
        rows = ["flag f 2", "register x", "register y", "writer", "write x up", "set f 1", "reader r", "look f as s",
                "if s is 0", "else", "read y up as v", "end"]
        self.assertFalse(holds(self.world(*rows), "old <= v"))
        rows.remove("look f as s")
        self.assertTrue(holds(self.world(*rows, "look f as s", "read x up as w"), "old <= v"))

    def test_marks_of_another_actor(self):
        made = self.world("flag f 2", "register x", "writer", "look f as s", "write x up", "set f 1", "reader r",
                          "if s is 0", "read x down as v", "else", "read x up as w", "end")
        self.assertTrue(holds(made, "whole w"))
        self.assertFalse(holds(made, "whole v"))

    def test_marks_that_hold_the_same(self):
        for two in "stu":
            made = self.world("flag f 2", "register x", "register y", "writer", "write x up", "step f", "reader r",
                              "look f as s", "look f as t", f"if s is {two}", "else", "read y up as v", "end",
                              "read x up as w")
            self.assertEqual(holds(made, "old <= v"), two == "s")
            self.assertFalse(holds(made, "whole w"))

    def test_flags_that_hold_more_than_1(self):
        for bound in (3, 4):
            for number in range(bound):
                made = self.world(f"flag f {bound}", "register x", "register y", "writer", "write x up", "step f",
                                  "reader r", "look f as s", f"if s is {number}", "read y up as v", "end",
                                  f"wait f {number}", "read y down as w")
                # The round of the turn may be any round, so the flag may hold each number behind it.
                self.assertFalse(holds(made, "old <= v"))
                self.assertFalse(holds(made, "old <= w"))

    def test_registers_that_are_never_written(self):
        made = self.world("register x", "register y", "writer", "write x up", "reader r", "read y up as v",
                          "read x up as w", "reader q", "read y down as u")
        for claim in ("v <= new", "whole v", "v then v", "u then v", "v then u"):
            self.assertTrue(holds(made, claim), claim)
        # The first cell of x alone may be turned.
        self.assertFalse(holds(made, "v <= w"))

    def test_readings_of_two_registers_together(self):
        made = self.world("register x", "register y", "writer", "write x down", "write y up", "reader r",
                          "read y down as v", "reader q", "read x up as w")
        self.assertTrue(holds(made, "v then w"))
        self.assertFalse(holds(made, "w then v"))


if __name__ == "__main__":
    unittest.main()
