"""Point 13: plans, their choices, and the safe and the least ones."""

import itertools
import random
import unittest

from digitsturn import plans as plans_module
from digitsturn.claims import claims_of, holds
from digitsturn.errors import BadChoice, BadClaim, BadPlan, BadWorld, NoReading, NotTogether
from digitsturn.plans import Plan, least, safe
from digitsturn.worlds import World

PLAIN = "register x\nwriter\nwrite x any\nreader r\nread x any as v"
MORE = "register x\nwriter\nwrite x up\nreader r\nread x down as v\nperhaps read x up as w"
WORDS = {"any": ("down", "up"), "perhaps": ("with", "without")}


def lines(*rows):
    return "\n".join(rows)


def plan(*rows):
    return Plan(lines(*rows))


FULL = lines(
    "flag f 2", "register x", "writer", "perhaps set f 1", "perhaps write x any", "write x down", "if s is 1",
    "perhaps step f", "else", "end", "reader r", "perhaps wait f 0", "read x any as v", "perhaps look f as s",
    "perhaps again")
# Both words in one line, words within blocks, both in the lines of two readers.
BLOCKS = lines(
    "flag f 3", "register x", "register y", "writer", "write x any", "if s is 0", "perhaps write y any", "else",
    "perhaps step f", "end", "reader r", "look f as s", "if s is 0", "perhaps read x up as v", "else",
    "read y any as w", "end", "reader q", "perhaps read y any as u")


def worlds_of(text):
    """Return (choice, world) for all possible choices, worked out line by line."""
    told = []
    places = [word for line in text.split("\n") for word in line.split(" ") if word in WORDS]
    for choice in itertools.product(*[WORDS[word] for word in places]):
        left = list(choice)
        rows = []
        for line in text.split("\n"):
            is_there = "perhaps" not in line or left.pop(0) == "with"
            if " any" in line:
                line = line.replace(" any", " " + left.pop(0))
            if is_there:
                rows.append(line.replace("perhaps ", ""))
        try:
            told.append((choice, World("\n".join(rows))))
        except BadWorld:
            pass
    return told


def safe_ones(text, claims):
    """Return the safe choices, by World and holds alone."""
    return [choice for choice, made in worlds_of(text)
            if all(claim in claims_of(made) and holds(made, claim) for claim in claims)]


def least_ones(told):
    """Return the least choices among the safe ones."""
    def parts(choice):
        turns = [word for word in choice if word in WORDS["any"]]
        return turns, {at for at, word in enumerate(choice) if word == "with"}

    return [choice for choice in told
            if not any(parts(other)[0] == parts(choice)[0] and parts(other)[1] < parts(choice)[1] for other in told)]


class DocumentTest(unittest.TestCase):
    def test_the_examples_of_the_document(self):
        made = Plan(PLAIN)
        self.assertEqual(
            [made.places, safe(made, ["v <= new"]), safe(made, ["old <= v"]), safe(made, ["whole v"])],
            [((3, "any"), (5, "any")), [("up", "down")], [("down", "up")], []])
        more = Plan(MORE)
        self.assertEqual([safe(more, ["v <= new"]), least(more, ["v <= new"])],
                         [[("with",), ("without",)], [("without",)]])
        self.assertEqual([more.choices(), more.world(("without",)).text],
                         [[("with",), ("without",)],
                          "register x\nwriter\nwrite x up\nreader r\nread x down as v"])

    def test_names_stand_in_their_file(self):
        for name in ("Plan", "safe", "least"):
            self.assertEqual(getattr(plans_module, name).__module__, "digitsturn.plans")
        self.assertTrue({"choices", "world", "__init__"} <= set(vars(Plan)))


class TextTest(unittest.TestCase):
    def wrong(self, line, *rows):
        with self.assertRaises(BadPlan, msg=rows) as caught:
            plan(*rows)
        self.assertEqual(caught.exception.line, line, rows)

    def wrong_in(self, text, number, *candidates):
        for line in candidates:
            rows = text.split("\n")
            self.wrong(number, *rows[:number - 1], line, *rows[number:])

    def test_attributes(self):
        for text, places in (
                (PLAIN, ((3, "any"), (5, "any"))), (MORE, ((6, "perhaps"),)),
                (FULL, ((4, "perhaps"), (5, "perhaps"), (5, "any"), (8, "perhaps"), (12, "perhaps"), (13, "any"),
                        (14, "perhaps"), (15, "perhaps"))),
                (MORE.replace("perhaps ", ""), ())):
            made = Plan(text)
            self.assertEqual((made.text, made.places), (text, places))
            self.assertIs(type(made.places), tuple)
            self.assertEqual({type(place) for place in made.places} - {tuple}, set())

    def test_perhaps_where_it_can_stand(self):
        head = ("flag f 2", "register x", "writer", "write x up")
        tail = ("reader r", "read x up as v")
        for line in ("write x down", "set f 1", "step f", "look f as s", "wait f 0"):
            self.assertEqual(plan(*head, "perhaps " + line, *tail).places, ((5, "perhaps"),))
        for line in ("read x down as w", "set f 1", "step f", "look f as s", "wait f 0", "again"):
            self.assertEqual(plan(*head, *tail, "perhaps " + line).places, ((7, "perhaps"),))

    def test_perhaps_where_it_cannot_stand(self):
        self.wrong_in(FULL, 1, "perhaps flag f 2", "flag perhaps 2", "flag f perhaps")
        self.wrong_in(FULL, 2, "perhaps register x", "register perhaps")
        self.wrong_in(FULL, 3, "perhaps writer", "writer perhaps")
        self.wrong_in(FULL, 7, "perhaps if s is 1", "if perhaps is 1", "if s is perhaps", "if s is 1 perhaps")
        self.wrong_in(FULL, 9, "perhaps else", "else perhaps")
        self.wrong_in(FULL, 10, "perhaps end", "end perhaps")
        self.wrong_in(FULL, 11, "perhaps reader r", "reader perhaps")
        self.wrong_in(FULL, 4, "perhaps", "perhaps ", "perhaps  set f 1", " perhaps set f 1", "perhaps perhaps set f 1",
                      "set perhaps f 1", "set f 1 perhaps", "set f perhaps", "set perhaps 1", "perhaps nonsense",
                      "Perhaps set f 1", "perhaps set f 2", "perhaps set g 1", "perhaps again", "perhaps any")
        self.wrong_in(FULL, 6, "write perhaps up", "write perhaps x up", "write x perhaps", "write x up perhaps",
                      "perhaps read x up as w", "perhaps write x left", "perhaps write y up")
        self.wrong_in(FULL, 13, "read x up as perhaps", "read x up perhaps v", "perhaps write x up")

    def test_any_where_it_cannot_stand(self):
        self.wrong_in(FULL, 1, "any", "flag any 2", "flag f any", "any f 2", "any flag f 2")
        self.wrong_in(FULL, 2, "register any")
        self.wrong_in(FULL, 4, "set f any", "set any 1", "step any", "wait f any", "look f as any", "look any as s",
                      "any set f 1", "set f 1 any")
        self.wrong_in(FULL, 6, "write any up", "write x any any", "write x any up", "write x up any", "write any",
                      "write any any", "any", "any write x up", "write any x any", "write x Any", "write y any",
                      "perhaps write x any any", "any perhaps write x up")
        self.wrong_in(FULL, 7, "if any is 1", "if s is any")
        self.wrong_in(FULL, 11, "reader any")
        self.wrong_in(FULL, 13, "read any up as v", "read x any as any", "read x any v", "read x any as", "read any as v",
                      "read x up as any", "read x any any as v", "read y any as v", "read x any as r")

    def test_eight_words_and_the_ninth(self):
        head = ("register x", "writer", "write x up", "reader r", "read x up as v")
        again = ("perhaps again",)
        self.assertEqual(len(plan(*head, *again * 8).places), 8)
        self.wrong(14, *head, *again * 9)
        self.wrong(14, *head, *again * 10)
        self.wrong(14, *head, *again * 9, "nonsense")
        self.wrong(13, *head, *again * 7, "nonsense", *again * 2)
        self.assertEqual(len(plan(*head, *again * 8, *["again"] * 3).places), 8)
        some = ("register x", "writer", "write x any", "reader r", "read x any as v")
        self.wrong(12, *some, *again * 7)
        self.assertEqual(len(plan(*some, *again * 6).places), 8)
        both = [f"perhaps read x any as {name}" for name in "abcde"]
        self.assertEqual(len(plan(*head, *both[:4]).places), 8)
        self.wrong(10, *head, *both)
        self.wrong(10, *head, *again, *both[:4])
        self.assertEqual(len(plan(*head, *again * 2, *both[:3]).places), 8)
        self.wrong(11, *head, *again * 2, *both[:3], "perhaps again")

    def test_lines(self):
        rows = PLAIN.split("\n") + ["again"] * 35
        self.assertEqual(plan(*rows).text, lines(*rows))
        self.wrong(41, *rows, "again")
        self.wrong(41, *rows, "perhaps again")
        self.wrong(40, *rows[:39], "perhaps if s is 0", "again")
        # Lines that may be left out count, too.
        self.wrong(41, *PLAIN.split("\n"), *["perhaps again"] * 5, *["again"] * 31)

    def test_what_would_be_wrong_in_a_world(self):
        self.wrong(1, "")
        self.wrong(1, "", PLAIN)
        self.wrong(6, PLAIN, "")
        self.wrong(6, PLAIN, "read x up as v")
        self.wrong(6, PLAIN, "perhaps read x any as v")
        self.wrong(6, PLAIN, "perhaps read x any as x")
        self.wrong(6, PLAIN, "else")
        self.wrong(5, "register x", "writer", "write x any", "if s is 0", "reader r", "perhaps read x any as v")
        for text in (PLAIN, MORE, FULL, BLOCKS):
            for number, line in enumerate(text.split("\n"), 1):
                self.wrong_in(text, number, line + " ", " " + line, line + " x", "nonsense", "")

    def test_what_is_lacking(self):
        self.wrong(2, "register x")
        self.wrong(3, "register x", "writer")
        self.wrong(4, "register x", "writer", "perhaps write x any")
        self.wrong(5, "register x", "writer", "perhaps write x any", "reader r")
        self.wrong(6, "register x", "writer", "write x any", "reader r", "perhaps again")
        self.wrong(7, PLAIN, "if s is 0")
        self.wrong(8, PLAIN, "if s is 0", "perhaps read x any as w")
        self.wrong(3, "register x", "writer", "writer")

    def test_sweeps_that_may_be_left_out_are_there_in_the_plan(self):
        made = plan("register x", "writer", "perhaps write x any", "reader r", "perhaps read x any as v")
        self.assertEqual(made.places, ((3, "perhaps"), (3, "any"), (5, "perhaps"), (5, "any")))


class ChoicesTest(unittest.TestCase):
    def test_choices_in_ascending_order(self):
        self.assertEqual(Plan(PLAIN).choices(), [("down", "down"), ("down", "up"), ("up", "down"), ("up", "up")])
        both = plan("register x", "writer", "write x up", "reader r", "read x up as v", "perhaps read x any as w")
        self.assertEqual(both.choices(), [("with", "down"), ("with", "up"), ("without", "down"), ("without", "up")])
        for text in (PLAIN, MORE, FULL, BLOCKS):
            told = Plan(text).choices()
            self.assertEqual(told, sorted(told))
            self.assertEqual(told, [choice for choice, _ in worlds_of(text)])
            self.assertEqual((type(told), {type(choice) for choice in told}), (list, {tuple}))

    def test_a_plan_without_such_words(self):
        text = MORE.replace("perhaps ", "")
        made = Plan(text)
        self.assertEqual(made.choices(), [()])
        self.assertEqual(made.world(()).text, text)
        self.assertEqual(made.world([]), World(text))
        self.assertEqual((safe(made, ["v <= new"]), safe(made, ["w <= new"])), ([()], []))
        self.assertEqual((least(made, ["v <= new"]), least(made, [])), ([()], [()]))

    def test_choices_that_give_no_world(self):
        made = plan("register x", "writer", "perhaps write x up", "perhaps write x any", "reader r",
                    "perhaps read x up as v")
        wanted = [("with", "with", "down", "with"), ("with", "with", "up", "with"),
                  ("with", "without", "down", "with"), ("with", "without", "up", "with"),
                  ("without", "with", "down", "with"), ("without", "with", "up", "with")]
        self.assertEqual(made.choices(), wanted)
        for choice in itertools.product(("with", "without"), ("with", "without"), ("down", "up"), ("with", "without")):
            if choice not in wanted:
                self.refused(made, choice)
        two = plan("register x", "writer", "write x up", "reader r", "perhaps read x up as v", "reader q",
                   "perhaps read x up as w")
        self.assertEqual(two.choices(), [("with", "with")])

    def test_a_plan_always_has_a_choice(self):
        made = plan("register x", "writer", *["perhaps write x any"] * 3, "reader r", "perhaps read x any as v")
        self.assertEqual(len(made.choices()), 7 * 8 * 2)

    def test_all_choices_of_eight_words(self):
        made = plan("register x", "writer", "write x up", "reader r", "read x up as v", *["perhaps again"] * 8)
        self.assertEqual(len(made.choices()), 256)
        self.assertEqual(made.choices()[:2], [("with",) * 8, ("with",) * 7 + ("without",)])
        self.assertEqual(made.world(("without",) * 7 + ("with",)).text.count("again"), 1)

    def test_worlds(self):
        for text in (PLAIN, MORE, FULL, BLOCKS):
            made = Plan(text)
            for choice, wanted in worlds_of(text):
                told = made.world(choice)
                self.assertIsInstance(told, World)
                self.assertEqual(told.text, wanted.text)
                self.assertEqual(made.world(list(choice)), wanted)

    def test_a_world_of_blocks(self):
        told = Plan(BLOCKS).world(["up", "without", "down", "with", "with", "down", "with", "up"])
        self.assertEqual(told.text, lines(
            "flag f 3", "register x", "register y", "writer", "write x up", "if s is 0", "else", "step f", "end",
            "reader r", "look f as s", "if s is 0", "read x up as v", "else", "read y down as w", "end", "reader q",
            "read y up as u"))

    def refused(self, made, *choices):
        for choice in choices:
            for told in (choice, list(choice)):
                with self.assertRaises(BadChoice, msg=choice):
                    made.world(told)

    def test_wrong_choices(self):
        self.refused(Plan(PLAIN), (), ("up",), ("up", "up", "up"), ("up", ""), ("", ""), ("with", "up"),
                     ("up", "without"), ("Up", "up"), ("up", "any"), ("any", "any"), ("left", "up"), ("up ", "up"),
                     ("up", "down", "with"), ("write x up", "up"))
        self.refused(Plan(MORE), (), ("up",), ("down",), ("perhaps",), ("with", "with"), ("With",), ("without ",), ("",))
        self.refused(plan("register x", "writer", "write x up", "reader r", "read x up as v", "perhaps read x any as w"),
                     ("up", "with"), ("with",), ("with", "with"), ("without",), ("without", ""))
        self.refused(Plan(MORE.replace("perhaps ", "")), ("with",), ("up",), ("",))

    def test_plans_never_change(self):
        made = Plan(BLOCKS)
        places, choices = made.places, made.choices()
        made.choices().clear()
        choice = list(choices[0])
        made.world(choice)
        self.assertEqual(choice, list(choices[0]))
        safe(made, ["v <= new"])
        self.assertEqual((made.text, made.places, made.choices()), (BLOCKS, places, choices))


class SafeTest(unittest.TestCase):
    def check(self, text, *claims):
        """Compare with what World and holds tell."""
        told, few = safe(Plan(text), list(claims)), least(Plan(text), claims)
        wanted = safe_ones(text, claims)
        self.assertEqual(told, wanted, (text, claims))
        self.assertEqual(few, least_ones(wanted), (text, claims))
        self.assertEqual([type(part) for part in [told, few] + told + few], [list] * 2 + [tuple] * len(told + few))
        return told, few

    def test_no_claims(self):
        for text in (PLAIN, MORE, FULL, BLOCKS):
            told, few = self.check(text)
            self.assertEqual(told, Plan(text).choices())
        self.assertEqual(few, [choice for choice in told if choice[1] == choice[3] == choice[4] == "without"])

    def test_one_claim_and_several(self):
        text = lines("register x", "register y", "writer", "write x any", "write y any", "reader r", "read y any as v",
                     "read x any as w")
        told, few = self.check(text, "v <= w")
        self.assertEqual((told, few), ([("down", "up", "down", "up")],) * 2)
        self.check(text, "v <= w", "v then w")
        both, _ = self.check(text, "v <= new", "old <= w")
        self.assertEqual(both, [("down", "up", "down", "up")])
        one, _ = self.check(text, "v <= new")
        self.assertEqual(one, [(x, "up", "down", w) for x in ("down", "up") for w in ("down", "up")])
        none, _ = self.check(text, "v <= new", "whole w")
        self.assertEqual(none, [])
        self.check(text, "v <= new", "v <= new")

    def test_claims_that_differ_only_in_the_order_of_their_names(self):
        text = lines("register x", "register y", "writer", "write x any", "write y any", "reader r", "read y any as v",
                     "read x any as w")
        for one, two in (("v <= w", "w <= v"), ("v then w", "w then v")):
            self.assertNotEqual(self.check(text, one), self.check(text, two))
            self.check(text, one, two)
            self.check(text, two, one)

    def test_readings_that_only_some_choices_have(self):
        told, few = self.check(MORE, "w <= new")
        self.assertEqual((told, few), ([], []))
        text = lines("register x", "writer", "write x any", "reader r", "read x down as v", "perhaps read x any as w")
        told, few = self.check(text, "w <= new")
        self.assertEqual((told, few), ([("up", "with", "down")],) * 2)
        told, few = self.check(text, "v <= new")
        self.assertEqual(told, [("up", one, two) for one in ("with", "without") for two in ("down", "up")])
        # The direction of a sweep that is left out counts, too.
        self.assertEqual(few, [("up", "without", "down"), ("up", "without", "up")])
        self.check(text, "old <= w", "v <= new")
        self.check(text, "v then v", "w then w")

    def test_sweeps_of_the_writer_that_may_be_left_out(self):
        text = lines("register x", "writer", "perhaps write x any", "perhaps write x any", "reader r", "read x any as v")
        told, few = self.check(text, "v <= new")
        self.assertIn(("with", "up", "without", "down", "down"), few)
        self.assertNotIn(("with", "up", "with", "up", "down"), few)
        self.assertIn(("with", "up", "with", "up", "down"), told)
        self.check(text, "old <= v")

    def test_lines_that_are_needed(self):
        text = lines("flag t 2", "register x", "writer", "perhaps wait t 0", "write x any", "perhaps set t 1",
                     "reader r", "perhaps wait t 1", "read x any as v", "perhaps set t 0")
        self.check(text, "whole v")
        told, few = self.check(text, "whole v", "v then v", "v <= new", "old <= v")
        self.assertTrue(set(few) < set(told))

    def test_two_least_choices_of_the_same_directions(self):
        text = lines("register x", "register y", "writer", "write x up", "reader r", "read y up as v",
                     "perhaps read y up as w", "perhaps read y up as u")
        self.check(text, "whole v")
        either = lines("flag f 2", "register x", "writer", "write x up", "reader r", "perhaps wait f 1",
                       "perhaps again", "read x up as v")
        told, few = self.check(either, "whole v")
        self.assertEqual(told, [("with", "with"), ("with", "without"), ("without", "with")])
        self.assertEqual(few, [("with", "without"), ("without", "with")])

    def test_blocks(self):
        text = lines(
            "flag f 2", "register x", "writer", "write x down", "look f as s", "if s is 0", "perhaps write x any",
            "else", "perhaps step f", "end", "reader r", "perhaps look f as s", "if s is 0", "read x any as v", "end")
        for claim in ("v <= new", "old <= v", "v then v", "whole v"):
            self.check(text, claim)

    def test_many_plans(self):
        pick = random.Random(4)
        some = 0
        for _ in range(30):
            rows = ["flag f 2", "register x", "writer"]
            rows += pick.sample(["write x any", pick.choice(["perhaps set f 1", "perhaps step f"])], 2)
            rows += ["reader r"] + pick.sample(["read x any as v", "perhaps read x up as w", "perhaps wait f 0"], 3)
            claims = pick.sample(["v <= new", "old <= v", "v then v", "w <= new", "v <= w", "old <= w", "whole v"], 2)
            told, _ = self.check("\n".join(rows), *claims[:pick.randint(1, 2)])
            some += bool(told)
        self.assertGreater(some, 5)

    def test_what_is_told_is_new(self):
        made, claims = Plan(MORE), ["v <= new"]
        for call in (safe, least):
            first = call(made, claims)
            again = list(first)
            first.clear()
            self.assertEqual(call(made, claims), again)
        self.assertEqual(claims, ["v <= new"])


class WrongClaimsTest(unittest.TestCase):
    readers = Plan(MORE + "\nreader q\nperhaps read x any as u\nread x up as a")

    def told(self, made, claims):
        """Return the error, which both calls raise."""
        errors = []
        for call in (safe, least):
            with self.assertRaises((BadClaim, NoReading, NotTogether), msg=claims) as caught:
                call(made, claims)
            errors.append((type(caught.exception), vars(caught.exception)))
        self.assertEqual(errors[0], errors[1])
        return errors[0]

    def test_each_error(self):
        for claim in ("", "v", "v <= any", "old <= perhaps", "v < w"):
            self.assertEqual(self.told(self.readers, [claim]), (BadClaim, {}))
        for claim, name in (("old <= x", "x"), ("q <= v", "q"), ("v then r", "r"), ("whole z", "z")):
            self.assertEqual(self.told(self.readers, [claim]), (NoReading, {"name": name}))
        for claim in ("v <= v", "v <= u", "a <= w", "u <= u"):
            self.assertEqual(self.told(self.readers, [claim]), (NotTogether, {}))

    def test_the_first_wrong_claim_counts(self):
        right = "v <= new"
        self.assertEqual(self.told(self.readers, [right, "v <= a", "", "whole z"]), (NotTogether, {}))
        self.assertEqual(self.told(self.readers, [right, right, "whole z", "v <= a"]), (NoReading, {"name": "z"}))
        self.assertEqual(self.told(self.readers, ["whole z", ""]), (NoReading, {"name": "z"}))
        self.assertEqual(self.told(self.readers, ["", "whole z"]), (BadClaim, {}))
        self.assertEqual(self.told(self.readers, ("v <= v", "whole z")), (NotTogether, {}))

    def test_wrong_claims_behind_one_that_no_choice_keeps(self):
        self.assertEqual(self.told(Plan(PLAIN), ["whole v", "whole w"]), (NoReading, {"name": "w"}))

    def test_all_readings_that_the_lines_name_count(self):
        made = plan("register x", "writer", "write x up", "reader r", "perhaps read x up as v", "perhaps read x up as w",
                    "reader q", "read x up as u")
        for claim in ("v <= w", "v then w", "old <= w", "u then v"):
            self.assertEqual(type(safe(made, [claim])), list)
        self.assertEqual(self.told(made, ["v <= u"]), (NotTogether, {}))

    def test_a_call_that_is_refused_may_be_asked_of_any_plan(self):
        rows = ["flag f 4", "flag g 4", "flag h 4", "register x", "writer", "write x any", "step f", "step g", "reader r"]
        rows += [f"perhaps read x any as a{letter}" for letter in "abc"]
        rows += [f"read x up as b{letter}" for letter in "abcdefgh"]
        self.assertEqual(self.told(plan(*rows), ["whole zz"]), (NoReading, {"name": "zz"}))


if __name__ == "__main__":
    unittest.main()
