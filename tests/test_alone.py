"""Point 11: actors that end alone, and the shortest lists behind which they never do."""

import itertools
import unittest

from digitsturn import alone
from digitsturn.alone import ends_alone, stuck
from digitsturn.clocks import Clock
from digitsturn.errors import NoActor
from digitsturn.worlds import World

from model import Maker


def world(*rows):
    return World("\n".join(rows))


FLAGS = ("flag f 2", "flag g 4", "register x", "writer")
PLAIN = world("register x", "writer", "write x up", "reader r", "read x down as v")
WAITS = world("flag f 2", "register x", "writer", "set f 1", "write x up", "set f 0", "reader r", "wait f 0",
              "read x up as v")
# More steps than this without an end are never needed where the worlds below end alone.
MANY = 300


def clock_of(made):
    return Clock(made, [(0,)] * 500)


def comes_to_rest(clock, actor):
    """Tell whether the actor comes to rest if it alone does many steps; the clock is led on."""
    # At rest, the next step begins a round or a call.
    return any(clock.step(actor)[1] == 0 for _ in range(MANY))


def shortest_length(made, actor, length):
    """Return how many steps it takes at least until the actor never ends alone, or None if that many are too few."""
    for many in range(length + 1):
        for actors in itertools.product(("writer",) + made.readers, repeat=many):
            clock = clock_of(made)
            if None not in [clock.step(name)[1] for name in actors] and not comes_to_rest(clock, actor):
                return many
    return None


class AloneTest(unittest.TestCase):
    def check_stuck(self, made, actor, length=None):
        """The list leads to where the actor is within a round or call and never ends it."""
        self.assertIs(ends_alone(made, actor), False, made.text)
        actors = stuck(made, actor)
        self.assertIs(type(actors), list)
        clock = clock_of(made)
        for name in actors:
            self.assertIsNotNone(clock.step(name)[1])
        self.assertFalse(comes_to_rest(clock, actor), made.text)
        if length is not None:
            self.assertEqual(len(actors), length)
        return actors

    def check_ends(self, made, *actors):
        for actor in actors:
            self.assertIs(ends_alone(made, actor), True, (made.text, actor))
            self.assertIsNone(stuck(made, actor))

    def test_the_example_of_the_document(self):
        self.assertEqual([ends_alone(WAITS, "writer"), ends_alone(WAITS, "r"), len(stuck(WAITS, "r"))],
                         [True, False, 3])
        self.check_stuck(WAITS, "r", 3)

    def test_the_functions_stand_in_their_file(self):
        for name in ("ends_alone", "stuck"):
            self.assertEqual(getattr(alone, name).__module__, "digitsturn.alone")

    def test_worlds_without_waiting(self):
        self.check_ends(PLAIN, "writer", "r")
        made = world(*FLAGS, "write x up", "step f", "look f as s", "if s is 1", "write x down", "end", "reader r",
                     "read x up as v", "reader q", "look g as s", "if s is 0", "else", "read x up as w", "end")
        self.check_ends(made, "writer", "r", "q")

    def test_waiting_for_ever(self):
        made = world(*FLAGS, "write x up", "reader r", "wait f 1", "read x up as v")
        self.assertEqual(self.check_stuck(made, "r"), ["r"])
        self.check_ends(made, "writer")
        made = world(*FLAGS, "write x up", "wait g 3", "reader r", "read x up as v", "set g 3")
        self.assertEqual(self.check_stuck(made, "writer"), ["writer"])
        self.check_ends(made, "r")

    def test_who_sets_what_it_waits_for_goes_on(self):
        self.check_ends(world(*FLAGS, "set f 1", "wait f 1", "write x up", "reader r", "read x up as v"), "writer", "r")
        made = world(*FLAGS, "set f 1", "wait f 1", "write x up", "reader r", "read x up as v", "set f 0")
        self.check_stuck(made, "writer", 5)
        self.check_ends(made, "r")

    def test_beginning_anew_for_ever(self):
        made = world(*FLAGS, "write x up", "reader r", "read x up as v", "again")
        self.assertEqual(self.check_stuck(made, "r"), ["r"])
        made = world(*FLAGS, "set f 1", "write x up", "set f 0", "reader r", "read x up as v", "look f as s",
                     "if s is 1", "again", "end")
        self.check_stuck(made, "r", 3)
        self.check_ends(made, "writer")
        made = world(*FLAGS, "write x up", "reader r", "step g", "read x up as v", "again")
        self.assertEqual(self.check_stuck(made, "r"), ["r"])

    def test_ending_only_behind_many_steps(self):
        rows = ["step g", "look g as s", "if s is 0", "step f", "look f as t", "if t is 0", "else", "again", "end",
                "else", "again", "end", "read x up as v"]
        made = world(*FLAGS, "write x up", "reader r", *rows)
        self.check_ends(made, "r", "writer")
        # The marks count, too: what was looked at lets the reader end, though nothing changes any more.
        made = world(*FLAGS, "write x up", "reader r", "look g as s", "step g", "if s is 3", "else", "again", "end",
                     "read x up as v")
        self.check_ends(made, "r")
        made = world(*FLAGS, "write x up", "reader r", "look g as s", "if s is 3", "else", "step g", "step g", "again",
                     "end", "read x up as v")
        self.assertEqual(self.check_stuck(made, "r"), ["r"])

    def test_the_state_that_others_leave_counts(self):
        made = world(*FLAGS, "write x up", "step g", "reader r", "look g as s", "if s is 3", "wait f 1", "end",
                     "read x up as v")
        # Three rounds of three steps, the beginning of the call and its look.
        actors = self.check_stuck(made, "r", 10)
        self.assertEqual(actors.count("writer"), 9)
        made = world(*FLAGS, "write x up", "reader r", "read x up as v", "step g", "reader q", "look g as s",
                     "if s is 2", "again", "end", "read x up as w")
        self.check_stuck(made, "q", 7)
        self.check_ends(made, "writer", "r")

    def test_a_call_that_has_gone_past_its_wait_ends(self):
        made = world(*FLAGS, "write x up", "reader r", "wait f 0", "set f 1", "read x up as v", "set f 0", "reader q",
                     "wait f 0", "read x up as w")
        self.check_ends(made, "writer", "r")
        actors = self.check_stuck(made, "q", 4)
        self.assertEqual((actors.count("r"), actors.count("q")), (3, 1))

    def test_at_rest_an_actor_is_not_stuck(self):
        # The flag is 1 at rest and 0 within each call.
        made = world(*FLAGS, "write x up", "reader r", "set f 0", "wait f 0", "read x up as v", "set f 1")
        self.check_ends(made, "r", "writer")

    def test_wait_of_both(self):
        made = world("flag t 2", "register x", "writer", "wait t 0", "write x up", "set t 1", "reader r", "wait t 1",
                     "read x up as v", "set t 0")
        self.assertEqual(self.check_stuck(made, "r"), ["r"])
        # A whole round of four steps, then the beginning of the next one.
        self.assertEqual(self.check_stuck(made, "writer"), ["writer"] * 5)

    def test_wrong_names(self):
        for made in (PLAIN, WAITS):
            for name in ("x", "v", "f", "q", "", "Writer", "reader", "writer ", "reader r", "up"):
                for call in (ends_alone, stuck):
                    with self.assertRaises(NoActor) as caught:
                        call(made, name)
                    self.assertEqual(caught.exception.name, name)

    def test_a_call_that_is_refused_may_be_asked_of_any_world(self):
        rows = ["flag f 4", "flag g 4", "flag h 4", "register x", "writer", "write x up"]
        for name in "rq":
            rows += [f"reader {name}", f"read x up as v{name}"]
            rows += ["step f", "look f as s", "step g", "look g as t", "step h", "look h as u"] * 2
        with self.assertRaises(NoActor):
            ends_alone(world(*rows), "p")

    def test_what_is_told_is_new(self):
        first = stuck(WAITS, "r")
        again = list(first)
        first.clear()
        self.assertEqual(stuck(WAITS, "r"), again)


class ManyWorldsTest(unittest.TestCase):
    check_stuck = AloneTest.check_stuck

    def test_against_all_lists_up_to_a_length(self):
        found = kept = seed = 0
        while found < 25 or kept < 25:
            seed += 1
            made = World(Maker(seed).text())
            if made.text.count("\n") > 16 or "flag" not in made.text:
                continue
            length = {1: 6, 2: 4}[len(made.readers)]
            for actor in ("writer",) + made.readers:
                told = stuck(made, actor)
                shortest = shortest_length(made, actor, length)
                if shortest is not None:
                    found += 1
                    self.check_stuck(made, actor, shortest)
                elif told is not None:
                    self.assertGreater(len(self.check_stuck(made, actor)), length)
                else:
                    kept += 1
                    self.assertTrue(ends_alone(made, actor))


if __name__ == "__main__":
    unittest.main()
