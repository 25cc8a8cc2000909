"""Points 2, 8, 9, 10 and 12: claims, and the shortest runs that break them."""

import copy
import itertools
import unittest

from digitsturn import claims as claims_module
from digitsturn.claims import broken_by, claims_of, holds, kept_claims
from digitsturn.clocks import Clock
from digitsturn.errors import BadClaim, NoReading, NotTogether
from digitsturn.worlds import World

from everyrun import is_kept, shortest_breaks
from model import Maker


def world(*rows):
    return World("\n".join(rows))


PLAIN = world("register x", "writer", "write x up", "reader r", "read x down as v")
TWICE = world("register x", "writer", "write x up", "reader r", "read x up as v", "read x up as w")
READERS = world("register x", "writer", "write x up", "reader r", "read x down as v", "reader q", "read x up as w")
PAIR = world("register x", "register y", "writer", "write x down", "write y up", "reader r", "read y down as v",
             "read x up as w")
TURNS = world("flag t 2", "register x", "writer", "wait t 0", "write x up", "set t 1", "reader r", "wait t 1",
              "read x up as v", "set t 0")
STILL = world("register x", "register y", "writer", "write x up", "reader r", "read y up as v")
# After one reading of v ahead of the end of a round and one behind it, only w is read for ever.
GREATEST = world(
    "flag c 3", "flag d 2", "register x", "writer", "set d 0", "write x down", "set d 1", "wait c 2", "reader r",
    "look c as s", "if s is 2", "read x up as w", "else", "if s is 1", "wait d 1", "end", "read x up as v", "step c",
    "end")
# What may be read is not looked at before the flag holds 3, and it holds less again one round later.
ROUNDS = world("flag f 4", "register x", "writer", "step f", "write x down", "reader r", "look f as s", "if s is 3",
               "read x up as v", "end")
AGAIN = world(
    "flag c 2", "register x", "register y", "writer", "write x up", "reader r", "look c as s", "if s is 0",
    "read x down as v", "set c 1", "again", "else", "set c 0", "read y up as w", "end")
SAVED = world("flag f 2", "register x", "writer", "set f 1", "write x up", "set f 0", "reader r", "read x up as v",
              "look f as s", "if s is 1", "again", "end")


def steps_ended(made, values, actors):
    """Return for each call its readings, how many calls had ended when it began, and whether the last step ended it."""
    clock = Clock(made, values)
    begun, told = {}, []
    for actor in actors:
        before = len(clock.calls())
        _, line, _ = clock.step(actor)
        if line == 0 and actor != "writer":
            begun[actor] = before
        calls = clock.calls()
        if len(calls) > before:
            told.append((calls[-1], begun[actor]))
    return told


def breaks(claim, values, ended):
    """Tell whether the last call breaks the claim by these values."""
    (_, old, new, readings), earlier = ended[-1]
    words = claim.split(" ")
    if words[0] == "whole":
        return words[1] in readings and readings[words[1]] not in values
    if words[1] == "then":
        lows = [call[3].get(words[0]) for call, _ in ended[:earlier]]
    elif words[0] == "old":
        lows = [values[old]]
    else:
        lows = [readings.get(words[0])]
    high = values[new] if words[2] == "new" else readings.get(words[2])
    return high is not None and any(low is not None and low > high for low in lows)


class Told(unittest.TestCase):
    def check_break(self, made, claim, length=None):
        """The told run breaks the claim with its last step, and not before; its values have the told form."""
        told = broken_by(made, claim)
        self.assertIsNotNone(told, (claim, made.text))
        self.assertIs(type(told), tuple)
        values, actors = told
        self.assertEqual((type(values), {type(value) for value in values}, type(actors)), (list, {tuple}, list))
        self.check_values(made, values, actors)
        calls = made.run(values, actors)
        self.assertEqual(len(calls), len(made.run(values, actors[:-1])) + 1, claim)
        ended = steps_ended(made, values, actors)
        self.assertEqual([call for call, _ in ended], calls)
        self.assertTrue(breaks(claim, values, ended), (claim, made.text))
        for many in range(1, len(ended)):
            self.assertFalse(breaks(claim, values, ended[:many]))
        if length is not None:
            self.assertEqual(len(actors), length, claim)
        return told

    def check_values(self, made, values, actors):
        low, high = values[0], values[-1]
        self.assertIn((low, high), (((0,), (1,)), ((0, 1), (1, 0))))
        turn = values.index(high)
        self.assertEqual(values, [low] * turn + [high] * (len(values) - turn))
        # With more values, no more rounds would begin; and none is left out.
        lines = [(step[0], step[1]) for step in made.steps(values + [high] * len(actors), actors)]
        self.assertEqual(lines.count(("writer", 0)), len(values) - 1)
        self.assertNotIn(None, [line for _, line in lines])

    def check_kept(self, made, *kept):
        """Exactly these claims of the world are kept."""
        self.assertEqual(kept_claims(made), list(kept))
        for claim in claims_of(made):
            self.assertIs(holds(made, claim), claim in kept, claim)
            if claim in kept:
                self.assertIsNone(broken_by(made, claim), claim)
            else:
                self.check_break(made, claim)


class DocumentTest(Told):
    def test_the_example_of_the_document(self):
        self.assertEqual(
            [claims_of(PLAIN), kept_claims(PLAIN), holds(PLAIN, "old <= v")],
            [["old <= v", "v <= new", "whole v", "v then v"], ["v <= new"], False])
        values, actors = broken_by(PLAIN, "old <= v")
        self.assertEqual([len(values[0]), len(actors), PLAIN.run(values, actors)[0][3]], [2, 5, {"v": (0, 0)}])
        self.assertEqual(claims_of(TWICE)[6:], ["v <= w", "w <= v", "v then v", "v then w", "w then v", "w then w"])

    def test_the_functions_stand_in_their_file(self):
        for name in ("holds", "broken_by", "claims_of", "kept_claims"):
            self.assertEqual(getattr(claims_module, name).__module__, "digitsturn.claims")


class FormsTest(Told):
    """Each form of claim, kept and broken."""

    def test_directions(self):
        for write, read in itertools.product(("up", "down"), repeat=2):
            made = world("register x", "writer", f"write x {write}", "reader r", f"read x {read} as v")
            kept = {("up", "down"): ["v <= new"], ("down", "up"): ["old <= v"]}.get((write, read), [])
            self.check_kept(made, *kept)

    def test_lengths(self):
        self.check_break(PLAIN, "old <= v", 5)
        self.check_break(PLAIN, "whole v", 5)
        # The first reading has its greatest digit from the turn, the other one takes 00.
        self.check_break(PLAIN, "v then v", 8)
        made = world("register x", "writer", "write x down", "reader r", "read x up as v")
        self.check_break(made, "v <= new", 5)
        self.check_break(made, "v then v", 9)

    def test_old(self):
        self.check_kept(STILL, "v <= new", "whole v", "v then v")
        values, actors = self.check_break(STILL, "old <= v", 4)
        self.assertEqual(values, [(0,), (1,)])
        self.assertEqual(actors[:3], ["writer", "writer", "r"])

    def test_old_is_that_of_the_beginning_of_the_call(self):
        # A round that ends within the call need not be seen, one that ended before it is not seen either.
        made = world("flag f 2", "register x", "register y", "writer", "set f 0", "write x up", "set f 1", "reader r",
                     "look f as s", "if s is 0", "read y up as v", "else", "read x up as w", "end")
        self.assertFalse(holds(made, "old <= w"))
        values, actors = self.check_break(made, "old <= v")
        self.assertEqual(made.run(values, actors)[-1][1:3], (1, 2))
        waits = world("flag f 2", "flag g 2", "register x", "register y", "writer", "wait f 1", "write x up", "set g 1",
                      "reader r", "set f 1", "wait g 1", "read y up as v")
        self.assertFalse(holds(waits, "old <= v"))

    def test_new_is_that_of_the_end_of_the_call(self):
        made = world("register x", "writer", "write x up", "write x down", "reader r", "read x up as v")
        self.assertFalse(holds(made, "v <= new"))
        for many in range(3):
            late = world("flag f 2", "register x", "writer", "write x up", "reader r", "read x down as v",
                         *["set f 1"] * many)
            self.assertTrue(holds(late, "v <= new"))

    def test_together(self):
        self.check_kept(PAIR, "v <= new", "old <= w", "v <= w", "v then w")
        self.assertFalse(holds(TWICE, "v <= w"))
        self.assertFalse(holds(TWICE, "w <= v"))
        self.check_break(TWICE, "w <= v")

    def test_one_cell_and_two_cells(self):
        # One cell needs the whole round, two cells only its first step, but two steps for each reading.
        for many, cells, length in ((0, 1, 6), (1, None, 7), (2, 2, 7), (3, 2, 7)):
            made = world("flag f 2", "register x", "register y", "writer", "write y up", *["set f 1"] * many,
                         "write x down", "reader r", "read y down as v", "read x down as w")
            values, _ = self.check_break(made, "w <= v", length)
            self.assertIn(len(values[0]), (1, 2) if cells is None else (cells,))

    def test_whole(self):
        self.check_kept(TURNS, "old <= v", "v <= new", "whole v", "v then v")
        values, _ = self.check_break(PLAIN, "whole v")
        self.assertEqual(len(values[0]), 2)
        once = world("flag t 2", "register x", "writer", "write x up", "set t 1", "reader r", "wait t 1",
                     "read x up as v")
        self.assertFalse(holds(once, "whole v"))
        # Here the writer is let into no second round.
        closed = world("flag t 2", "flag u 2", "register x", "writer", "wait u 0", "write x up", "set t 1",
                       "wait u 1", "reader r", "wait t 1", "set u 1", "read x up as v")
        self.assertTrue(holds(closed, "whole v"))
        self.check_break(World(closed.text.replace("wait u 0\n", "")), "whole v")

    def test_then_between_two_readers(self):
        self.check_kept(READERS, "v <= new")
        self.check_break(READERS, "v then w")
        self.check_break(READERS, "w then v")
        order = world("flag f 2", "register x", "register y", "writer", "write x down", "reader r",
                      "read y down as v", "reader q", "read x up as w")
        self.assertTrue(holds(order, "v then w") and holds(order, "v then v"))
        values, actors = self.check_break(order, "w then v", 6)
        self.assertEqual([call[0] for call in order.run(values, actors)], ["q", "r"])

    def test_then_asks_for_a_call_that_had_ended_when_the_other_began(self):
        # As long as q has not ended its first call, r begins the one call in which it will read v.
        rows = ("flag b 2", "register x", "register y", "writer", "write x up", "reader r", "look b as s",
                "if s is 0", "wait b 1", "read y up as v", "end", "reader q", "read x up as w")
        made = world(*rows, "set b 1")
        self.assertEqual(made.run([(0,), (1,)], ["r"] * 3 + ["writer"] * 2 + ["q"] * 3 + ["r"] * 2),
                         [("q", 1, 1, {"w": (1,)}), ("r", 0, 1, {"v": (0,)})])
        self.assertTrue(holds(made, "w then v"))
        other = world(*rows, "step b")
        values, actors = self.check_break(other, "w then v")
        calls = other.run(values, actors)
        self.assertEqual((calls[0][3], calls[-1][3]), ({"w": (1,)}, {"v": (0,)}))

    def test_then_of_a_reading_with_itself(self):
        self.check_break(READERS, "v then v")
        self.check_break(READERS, "w then w")
        self.assertTrue(holds(TURNS, "v then v"))
        self.assertTrue(holds(STILL, "v then v"))

    def test_then_of_two_readings_of_one_reader(self):
        made = world("register x", "register y", "writer", "write x down", "reader r", "read y up as v",
                     "read x up as w")
        self.check_kept(made, "v <= new", "whole v", "old <= w", "v <= w", "v then v", "v then w")
        self.check_break(made, "w <= v", 5)
        self.check_break(made, "w then v", 8)

    def test_the_greatest_earlier_reading_counts_also_where_it_is_not_the_latest(self):
        values, actors = self.check_break(GREATEST, "v then w")
        readings = [call[3] for call in GREATEST.run(values, actors)]
        self.assertEqual(readings, [{"v": (1, 1)}, {"v": (1, 0)}, {"w": (1, 0)}])
        self.assertFalse(holds(GREATEST, "v then v"))
        self.assertTrue(holds(GREATEST, "w then v"))

    def test_the_greatest_earlier_reading_counts_also_where_it_is_not_the_first(self):
        # The first v is read ahead of all rounds, the second one may be read within a round, then only w is read.
        made = world("flag c 3", "register x", "writer", "wait c 1", "write x down", "reader r", "look c as s",
                     "if s is 2", "read x up as w", "else", "read x up as v", "step c", "end")
        values, actors = self.check_break(made, "v then w")
        readings = [call[3] for call in made.run(values, actors)]
        self.assertEqual(readings, [{"v": (0, 1)}, {"v": (1, 1)}, {"w": (1, 0)}])


class ReadingsTest(Told):
    """Calls without a reading, and readings that are taken away."""

    def test_calls_without_the_reading(self):
        made = world("flag f 2", "register x", "writer", "write x up", "reader r", "look f as s", "if s is 1",
                     "read x up as v", "end")
        self.check_kept(made, "old <= v", "v <= new", "whole v", "v then v")
        made = world("flag f 2", "register x", "register y", "writer", "write x down", "reader r", "look f as s",
                     "step f", "if s is 1", "read x up as v", "else", "read y up as w", "end")
        for claim in ("v <= w", "w <= v"):
            self.assertTrue(holds(made, claim))
        self.check_break(made, "v then w")
        self.assertTrue(holds(made, "w then v"))
        self.check_break(made, "old <= w", 7)

    def test_readings_that_again_takes_away(self):
        self.check_kept(AGAIN, "old <= v", "v <= new", "whole v", "w <= new", "whole w", "v <= w", "w <= v", "v then v",
                        "v then w", "w then v", "w then w")
        self.check_break(AGAIN, "old <= w")

    def test_a_call_that_begins_anew_keeps_its_old(self):
        # The call with v begins ahead of the end of the first round, though it reads v behind it.
        made = world("flag c 2", "flag f 2", "register x", "register y", "writer", "write x up", "set f 1", "reader r",
                     "look c as s", "if s is 1", "read y up as v", "set c 0", "else", "look f as t", "if t is 0",
                     "set c 1", "wait f 1", "again", "end", "end")
        self.assertEqual(made.run([(0,), (1,)], ["r"] * 6 + ["writer"] * 3 + ["r"] * 9)[0], ("r", 0, 1, {"v": (0,)}))
        self.assertTrue(holds(made, "old <= v"))
        waits = world("flag f 2", "register x", "register y", "writer", "write x up", "set f 1", "reader r",
                      "look f as s", "if s is 0", "again", "end", "read y up as v")
        values, actors = self.check_break(waits, "old <= v", 7)
        self.assertEqual(waits.run(values, actors)[0][1], 1)

    def test_sweeps_saved_by_a_flag(self):
        self.check_kept(SAVED)
        both = SAVED.text.replace("read x up as v", "look f as t\nif t is 1\nagain\nend\nread x up as v")
        self.check_kept(World(both))
        locked = world("flag f 2", "flag g 2", "register x", "writer", "wait g 0", "set f 1", "write x up", "set f 0",
                       "reader r", "set g 1", "wait f 0", "read x up as v", "set g 0")
        self.check_kept(locked)

    def test_a_flag_that_counts_rounds_is_not_enough_if_it_goes_round(self):
        for bound in (2, 3, 4):
            made = world(f"flag f {bound}", "register x", "writer", "write x up", "step f", "reader r", "look f as s",
                         "read x up as v", "look f as t", "if s is t", "else", "again", "end")
            self.check_break(made, "whole v")


class StatesTest(Told):
    """What tells apart two moments in which all actors are at the same lines."""

    def test_what_registers_hold(self):
        # Whoever reads does so when the flag is 0; whether x was written then, neither line nor flag tells.
        made = world("flag f 2", "register x", "register y", "writer", "look f as s", "if s is 1", "write x up", "end",
                     "set f 0", "reader r", "wait f 0", "read x up as v", "read y up as w", "set f 1")
        self.check_break(made, "v <= w")
        self.assertTrue(holds(made, "w <= v"))

    def test_whether_the_round_has_ended(self):
        # Each call with v begins within a round, behind another call in this round.
        made = world("flag f 4", "register x", "register y", "writer", "set f 1", "wait f 3", "set f 0", "if s is 1",
                     "write x up", "end", "reader r", "look f as s", "if s is 2", "read y up as v", "set f 3", "else",
                     "wait f 1", "set f 2", "end")
        values, actors = self.check_break(made, "old <= v")
        self.assertEqual(values, [(0,), (1,), (1,)])
        self.assertEqual(made.run(values, actors)[-1], ("r", 1, 2, {"v": (0,)}))


class RoundsTest(Told):
    def test_more_rounds_than_a_flag_has_numbers(self):
        for claim in ("v <= new", "whole v"):
            values, actors = self.check_break(ROUNDS, claim, 16)
            self.assertEqual(values, [(0, 1)] * 3 + [(1, 0)])
        values, actors = self.check_break(ROUNDS, "v then v", 22)
        self.assertEqual(len(values), 4)
        self.assertTrue(holds(ROUNDS, "old <= v"))
        made = world(
            "flag f 4", "register x", "register y", "writer", "step f", "look f as s", "write x up", "if s is 0",
            "write y up", "end", "reader r", "read y up as v")
        values, _ = self.check_break(made, "v then v")
        self.assertEqual(len(values), 5)
        self.assertEqual(len(self.check_break(made, "old <= v")[0]), 2)

    def test_rounds_behind_the_turn(self):
        # What was turned in round 1 is only broken when a flag has gone round once more.
        made = world("flag f 4", "register x", "register y", "writer", "step f", "write x up", "reader r", "look f as s",
                     "if s is 3", "read y up as v", "end")
        values, actors = self.check_break(made, "old <= v")
        self.assertEqual(len(values), 4)
        _, old, new, readings = made.run(values, actors)[-1]
        self.assertEqual((new, readings), (3, {"v": (0,)}))
        self.assertGreaterEqual(old, values.index((1,)))

    def test_runs_may_be_long(self):
        made = world("flag f 4", "flag g 4", "register x", "register y", "writer", "step f", "write x up",
                     "look f as s", "if s is 0", "step g", "end", "reader r", "look g as t", "look f as s", "if s is 3",
                     "if t is 3", "read y up as v", "end", "end")
        values, actors = self.check_break(made, "old <= v")
        self.assertEqual(len(values), 16)
        self.assertGreater(len(actors), 60)


class ListsTest(Told):
    def test_claims_of_in_its_order(self):
        made = world("register x", "writer", "write x up", "reader r", "read x up as b", "read x up as a", "reader q",
                     "read x up as c", "read x up as aa", "read x up as d")
        wanted = []
        for name in ("b", "a", "c", "aa", "d"):
            wanted += [f"old <= {name}", f"{name} <= new", f"whole {name}"]
        wanted += ["b <= a", "a <= b", "c <= aa", "c <= d", "aa <= c", "aa <= d", "d <= c", "d <= aa"]
        wanted += [f"{one} then {two}" for one in ("b", "a", "c", "aa", "d") for two in ("b", "a", "c", "aa", "d")]
        self.assertEqual(claims_of(made), wanted)
        self.assertEqual(claims_of(READERS), [
            "old <= v", "v <= new", "whole v", "old <= w", "w <= new", "whole w", "v then v", "v then w", "w then v",
            "w then w"])

    def test_claims_of_a_world_with_many_readings(self):
        names = [letter + other for letter in "abcdef" for other in "abcdef"]
        made = world("register x", "writer", "write x up", "reader r", *[f"read x up as {name}" for name in names])
        told = claims_of(made)
        self.assertEqual((len(told), len(set(told))), (36 * 3 + 36 * 35 + 36 * 36, 36 * 3 + 36 * 35 + 36 * 36))
        self.assertEqual(told[108:110] + told[-1:], ["aa <= ab", "aa <= ac", "ff then ff"])

    def test_each_of_them_is_a_claim(self):
        for made in (PLAIN, TWICE, READERS, PAIR, GREATEST):
            for claim in claims_of(made):
                self.assertIs(type(holds(made, claim)), bool)

    def test_kept_claims_are_those_that_hold(self):
        for made in (PLAIN, TWICE, READERS, PAIR, GREATEST, AGAIN, SAVED):
            self.assertEqual(kept_claims(made), [claim for claim in claims_of(made) if holds(made, claim)])

    def test_what_is_told_is_new(self):
        for call in (claims_of, kept_claims):
            first = call(PAIR)
            self.assertIs(type(first), list)
            again = list(first)
            first.clear()
            self.assertEqual(call(PAIR), again)
        values, actors = broken_by(PLAIN, "old <= v")
        before = copy.deepcopy((values, actors))
        values.clear()
        actors.append("r")
        self.assertEqual(broken_by(PLAIN, "old <= v"), before)
        self.assertEqual(PLAIN, World(PLAIN.text))


class WrongTest(unittest.TestCase):
    def told(self, made, claim):
        """Return the error, which both calls raise."""
        errors = []
        for call in (holds, broken_by):
            with self.assertRaises((BadClaim, NoReading, NotTogether), msg=claim) as caught:
                call(made, claim)
            errors.append((type(caught.exception), vars(caught.exception)))
        self.assertEqual(errors[0], errors[1])
        return errors[0]

    def bad(self, *claims):
        for claim in claims:
            self.assertEqual(self.told(TWICE, claim), (BadClaim, {}), claim)

    def test_texts_that_are_nearly_claims(self):
        self.bad("", " ", "v", "old", "whole", "then", "<=", "old v", "v new", "v w", "v then", "then v", "old <=",
                 "<= new", "<= v", "v <=", "v whole", "whole v w", "whole <= v", "v <= whole", "whole old", "whole new",
                 "old whole v", "v <= w <= v", "old <= v <= new", "v then w then v", "v <= then w", "v then <= w")

    def test_other_signs(self):
        for sign in ("<", ">=", "=", "==", "=<", ">", "< =", "<==", "<=>", "&", "|", "-", "is", "Then", "THEN", "than"):
            self.bad(f"old {sign} v", f"v {sign} new", f"v {sign} w")

    def test_words_left_out_put_in_exchanged_and_doubled(self):
        for right in ("old <= v", "v <= new", "v <= w", "v then w", "whole v"):
            words = right.split(" ")
            for at in range(len(words)):
                self.bad(" ".join(words[:at] + words[at + 1:]), " ".join(words[:at + 1] + words[at:]))
            for extra in ("v", "not", "x", ""):
                for at in range(len(words) + 1):
                    self.bad(" ".join(words[:at] + [extra] + words[at:]))
            for one, two in itertools.combinations(range(len(words)), 2):
                other = list(words)
                other[one], other[two] = other[two], other[one]
                if other[1:2] not in (["<="], ["then"]) or "old" in other[1:] or "new" in other[:2]:
                    self.bad(" ".join(other))

    def test_old_and_new_on_the_wrong_side(self):
        self.bad("v <= old", "new <= v", "old <= new", "old <= old", "new <= new", "new <= old", "old then v",
                 "v then new", "v then old", "new then v")

    def test_spaces_and_lines(self):
        for right in ("old <= v", "v <= new", "v <= w", "v then w", "whole v"):
            self.bad(" " + right, right + " ", right.replace(" ", "  ", 1), right.replace(" ", ""), right + "\n",
                     "\n" + right, right.replace(" ", "\n"), right + "\n" + right)

    def test_capital_letters(self):
        self.bad("Old <= v", "OLD <= v", "old <= V", "V <= new", "v <= New", "v <= NEW", "v Then w", "Whole v",
                 "whole V", "v <= W", "V then w")

    def test_words_that_are_no_names(self):
        barred = ("flag register writer reader write read up down as set step look wait if is else end again old new "
                  "then whole any perhaps").split()
        for word in barred + ["", "0", "v1", "v_w", "v.", "abcdefghijklm", "v,", "(v)", "v-w"]:
            self.bad(f"whole {word}", f"v then {word}", f"{word} then v")
            if word != "new":
                self.bad(f"v <= {word}")
            if word != "old":
                self.bad(f"{word} <= v", f"{word} <= new")
            self.bad(f"old <= {word}")

    def test_names_that_are_no_readings(self):
        for name in ("x", "r", "u", "writers", "olds", "abcdefghijkl"):
            for claim in (f"old <= {name}", f"{name} <= new", f"whole {name}", f"v <= {name}", f"{name} <= w",
                          f"v then {name}", f"{name} then w", f"{name} then {name}", f"{name} <= {name}"):
                self.assertEqual(self.told(TWICE, claim), (NoReading, {"name": name}), claim)
        self.assertEqual(self.told(TWICE, "a <= b"), (NoReading, {"name": "a"}))
        self.assertEqual(self.told(TWICE, "b then a"), (NoReading, {"name": "b"}))

    def test_readings_that_are_not_together(self):
        self.assertEqual(self.told(READERS, "v <= w"), (NotTogether, {}))
        self.assertEqual(self.told(READERS, "w <= v"), (NotTogether, {}))
        for made in (TWICE, READERS):
            self.assertEqual(self.told(made, "v <= v"), (NotTogether, {}))
        holds(READERS, "v then w")
        holds(TWICE, "v then v")

    def test_which_error_comes_first(self):
        self.assertEqual(self.told(TWICE, "u <= Z"), (BadClaim, {}))
        self.assertEqual(self.told(TWICE, "u then any"), (BadClaim, {}))
        self.assertEqual(self.told(READERS, "u <= v"), (NoReading, {"name": "u"}))
        self.assertEqual(self.told(READERS, "v <= u"), (NoReading, {"name": "u"}))
        self.assertEqual(self.told(READERS, "u <= u"), (NoReading, {"name": "u"}))

    def test_a_call_that_is_refused_may_be_asked_of_any_world(self):
        rows = [f"read x up as a{letter}" for letter in "abcdefghijklmno"]
        other = [f"read x up as b{letter}" for letter in "abcdefghijklmno"]
        large = world("flag f 4", "flag g 4", "flag h 4", "register x", "writer", "write x up", "reader r", *rows,
                      "reader q", *other)
        self.assertEqual(self.told(large, "aa <="), (BadClaim, {}))
        self.assertEqual(self.told(large, "whole cc"), (NoReading, {"name": "cc"}))
        self.assertEqual(self.told(large, "aa <= bb"), (NotTogether, {}))


class ManyWorldsTest(Told):
    """Comparison with all runs of up to three cells up to a length, and with long runs of up to five cells."""

    def small_world(self, seed):
        """Return (seed, world) for the next seed of a world with few lines."""
        while True:
            text = Maker(seed).text()
            readers = text.count("\nreader ")
            if text.count("\n") < 11 and text.count("\nread ") <= 2 and text.count("\nflag") < 2:
                return seed, World(text), {1: 11, 2: 7}[readers]
            seed += 1

    def test_all_runs_up_to_a_length(self):
        seed, shown = -1, 0
        for _ in range(14):
            seed, made, length = self.small_world(seed + 1)
            claims = claims_of(made)
            shortest = shortest_breaks(made, claims, length)
            for claim in claims:
                told = broken_by(made, claim)
                if shortest[claim] is not None:
                    shown += 1
                    self.check_break(made, claim, shortest[claim])
                elif told is not None:
                    self.check_break(made, claim)
                    self.assertGreater(len(told[1]), length, (claim, made.text))
        self.assertGreater(shown, 20)

    def test_claims_that_hold_are_kept_by_long_runs(self):
        kept = 0
        for made in (PLAIN, PAIR, TURNS, STILL, GREATEST, ROUNDS, AGAIN, READERS):
            claims = kept_claims(made)
            for cells in (1, 2, 3, 5):
                values = [(version,) * cells for version in range(61)]
                for seed in range(3):
                    maker = Maker(seed)
                    maker.readers = list(made.readers)
                    ended = steps_ended(made, values, maker.order(400))
                    kept += len(ended)
                    for at, (call, earlier) in enumerate(ended):
                        before = [other[3] for other, _ in ended[:earlier]]
                        self.assertEqual([claim for claim in claims if not is_kept(claim, call, before)], [])
        self.assertGreater(kept, 500)


if __name__ == "__main__":
    unittest.main()
