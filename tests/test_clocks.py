"""Point 14, with points 5, 6 and 7: clocks that are led by hand."""

import copy
import random
import unittest

from digitsturn import clocks
from digitsturn.clocks import Clock
from digitsturn.errors import BadValues, NoActor, NoRegister, NothingToUndo, TurnError
from digitsturn.worlds import World

from model import Maker, Model


def world(*rows):
    return World("\n".join(rows))


PLAIN = world("register x", "writer", "write x up", "reader r", "read x down as v")
PAIR = world("flag f 3", "register x", "register y", "writer", "step f", "write x down", "write y up", "reader r",
             "look f as s", "if s is 2", "again", "end", "read y down as v", "reader q", "wait f 1", "read x up as w")
TURN = [(0, 9), (1, 0)]
ROWS = [(0, 0, 7), (0, 1, 0), (0, 1, 0), (3, 0, 0)]


class Other(Exception):
    """An error that the package does not know."""


def led(made, values, actors):
    clock = Clock(made, values)
    for actor in actors:
        clock.step(actor)
    return clock


class ClockTest(unittest.TestCase):
    def seen(self, clock, registers):
        """Return all that a clock tells."""
        return clock.calls(), [clock.held(name) for name in registers]

    def check_same(self, clock, made, values, actors):
        """The clock is one that was led by these actors, undoing included."""
        fresh = led(made, values, actors)
        self.assertEqual(self.seen(clock, made.registers), self.seen(fresh, made.registers))
        self.assertEqual(clock.calls(), made.run(values, actors))
        more = [made.readers[0], "writer", "writer", made.readers[-1], "writer"] * 3
        self.assertEqual([clock.step(name) for name in more], [fresh.step(name) for name in more])
        self.assertEqual(self.seen(clock, made.registers), self.seen(fresh, made.registers))
        for _ in more + list(actors):
            clock.undo()
            fresh.undo()
            self.assertEqual(self.seen(clock, made.registers), self.seen(fresh, made.registers))
        self.check_nothing_to_undo(clock)

    def check_nothing_to_undo(self, clock):
        with self.assertRaises(NothingToUndo):
            clock.undo()


class StepTest(ClockTest):
    def test_the_example_of_the_document(self):
        clock = Clock(PLAIN, TURN)
        self.assertEqual([clock.step("writer"), clock.step("writer"), clock.held("x")],
                         [("writer", 0, None), ("writer", 3, 1), (0, 0)])
        self.assertIsNone(clock.undo())
        self.assertEqual([clock.held("x"), clock.calls()], [(0, 9), []])

    def test_the_class_stands_in_its_file(self):
        self.assertEqual(Clock.__module__, "digitsturn.clocks")
        self.assertIs(clocks.Clock, Clock)
        self.assertTrue({"__init__", "step", "calls", "held", "undo", "attempt"} <= set(vars(Clock)))

    def test_steps_calls_and_cells_at_every_moment(self):
        for seed in range(60):
            maker = Maker(seed)
            made = World(maker.text())
            values = maker.values(seed % 4 + 1, 5)
            actors = maker.order(60)
            clock, model = Clock(made, values), Model(made.text, values)
            steps = list(made.steps(values, actors))
            for at, actor in enumerate(actors):
                self.assertEqual(clock.step(actor), steps[at])
                model.step(actor)
                self.assertEqual(clock.calls(), model.calls)
                self.assertEqual(clock.calls(), made.run(values, actors[:at + 1]))
                self.assertEqual({name: clock.held(name) for name in made.registers},
                                 {name: tuple(row) for name, row in model.cells.items()})

    def test_what_registers_hold(self):
        clock = Clock(PAIR, ROWS)
        wanted = [[(0, 0, 7), (0, 0, 7)]] * 3 + [[(0, 0, 7), (0, 0, 7)], [(0, 1, 7), (0, 0, 7)], [(0, 1, 0), (0, 0, 7)],
                                                 [(0, 1, 0), (0, 0, 0)], [(0, 1, 0), (0, 1, 0)]]
        for row in wanted:
            self.assertEqual([clock.held("x"), clock.held("y")], row)
            clock.step("writer")
        clock = Clock(world("register x", "register y", "writer", "write x up", "reader r", "read y up as v"), TURN)
        for _ in range(5):
            self.assertEqual(clock.held("y"), (0, 9))
            clock.step("writer")

    def test_at_the_beginning(self):
        for values in (TURN, ROWS, [(5,)]):
            clock = Clock(PAIR, values)
            self.assertEqual(self.seen(clock, ("x", "y")), ([], [values[0]] * 2))

    def test_steps_in_which_nothing_is_done(self):
        clock = Clock(PLAIN, [(3,)])
        self.assertEqual([clock.step("writer") for _ in range(3)], [("writer", None, None)] * 3)
        self.assertEqual(clock.step("r"), ("r", 0, None))
        waits = Clock(PAIR, ROWS)
        self.assertEqual([waits.step("q") for _ in range(3)], [("q", 0, None)] + [("q", None, None)] * 2)

    def test_long_runs(self):
        values = [tuple([version] * 60) for version in range(61)]
        actors = ["writer"] * 1300 + ["r"] * 700
        clock = led(PLAIN, values, actors)
        self.assertEqual(clock.calls(), PLAIN.run(values, actors))
        self.assertEqual(len(clock.calls()), 11)
        for _ in range(2000):
            clock.undo()
        self.assertEqual((clock.calls(), clock.held("x")), ([], (0,) * 60))
        short = led(PLAIN, [(0,), (1,)], ["r"] * 2000)
        self.assertEqual(len(short.calls()), 1000)
        short.undo()
        self.assertEqual(len(short.calls()), 999)

    def test_great_digits(self):
        clock = led(PLAIN, [(10 ** 999,), (10 ** 999 + 1,)], ["writer", "writer", "r", "r"])
        self.assertEqual(clock.held("x"), (10 ** 999 + 1,))
        self.assertEqual(clock.calls()[0][3], {"v": (10 ** 999 + 1,)})


class UndoTest(ClockTest):
    def test_nothing_to_undo_at_the_beginning(self):
        clock = Clock(PLAIN, TURN)
        self.check_nothing_to_undo(clock)
        clock.step("r")
        clock.undo()
        self.check_nothing_to_undo(clock)
        self.check_nothing_to_undo(clock)
        self.check_same(clock, PLAIN, TURN, [])

    def test_steps_in_which_nothing_is_done_are_undone_one_by_one(self):
        clock = led(PLAIN, [(3,), (4,)], ["writer"] * 2 + ["writer"] * 3)
        for _ in range(3):
            clock.undo()
            self.assertEqual(clock.held("x"), (4,))
        clock.undo()
        self.assertEqual(clock.held("x"), (3,))
        clock.undo()
        self.check_nothing_to_undo(clock)
        waits = led(PAIR, ROWS, ["q"] * 4)
        for _ in range(4):
            waits.undo()
        self.check_nothing_to_undo(waits)

    def test_all_that_a_step_did_is_undone(self):
        for seed in range(60):
            maker = Maker(seed)
            made = World(maker.text())
            values = maker.values(seed % 3 + 1, 4)
            actors = maker.order(50)
            clock = led(made, values, actors)
            for many in (7, 20, 23):
                for _ in range(many):
                    clock.undo()
                    actors.pop()
                self.assertEqual(clock.calls(), made.run(values, actors))
                actors += maker.order(5)
                for actor in actors[-5:]:
                    clock.step(actor)
            self.check_same(clock, made, values, actors)

    def test_flags_and_marks_are_undone(self):
        made = world("flag f 2", "register x", "writer", "write x up", "reader r", "step f", "look f as s", "if s is 1",
                     "read x up as v", "else", "again", "end")
        steps = [("r", 0, None), ("r", 6, None), ("r", 7, None), ("r", 8, None), ("r", 9, 0), ("r", 0, None)]
        clock = Clock(made, [(1,)])
        for many in range(1, 7):
            self.assertEqual([clock.step("r") for _ in range(many)], steps[:many])
            for _ in range(many):
                clock.undo()

    def test_the_end_of_a_call_is_undone(self):
        clock = led(PLAIN, TURN, ["r"] * 3)
        self.assertEqual(len(clock.calls()), 1)
        clock.undo()
        self.assertEqual(clock.calls(), [])
        for _ in range(3):
            clock.step("writer")
        self.assertEqual(clock.step("r"), ("r", 5, 1))
        self.assertEqual(clock.calls(), [("r", 0, 1, {"v": (0, 0)})])

    def test_old_and_new_are_undone(self):
        clock = led(PLAIN, [(0,), (1,), (2,)], ["writer"] * 4)
        clock.undo()
        clock.step("r")
        clock.step("r")
        self.assertEqual(clock.calls(), [("r", 1, 2, {"v": (1,)})])


class AttemptTest(ClockTest):
    def test_what_the_action_returns_is_returned(self):
        clock = Clock(PLAIN, TURN)
        result = object()
        for told in (None, 0, False, "", result, [1], TurnError(), Other):
            self.assertIs(clock.attempt(lambda held: told), told)
        self.assertIs(clock.attempt(lambda held: held), clock)
        self.check_same(clock, PLAIN, TURN, [])

    def test_an_attempt_that_ends_well(self):
        clock = led(PLAIN, TURN, ["writer"])

        def action(held):
            return [held.step("writer"), held.step("r"), held.held("x")]

        self.assertEqual(clock.attempt(action), [("writer", 3, 1), ("r", 0, None), (0, 0)])
        self.check_same(clock, PLAIN, TURN, ["writer", "writer", "r"])

    def test_its_steps_are_undone_one_by_one(self):
        clock = led(PLAIN, TURN, ["writer"])
        clock.attempt(lambda held: [held.step("writer"), held.step("writer")])
        self.assertEqual(clock.held("x"), (1, 0))
        clock.undo()
        self.assertEqual(clock.held("x"), (0, 0))
        clock.undo()
        clock.undo()
        self.check_nothing_to_undo(clock)

    def failing(self, error, actors=(), undone=0):
        """Return an action that does steps and undoes some, and ends by an error."""
        def action(held):
            for actor in actors:
                held.step(actor)
            for _ in range(undone):
                held.undo()
            raise error

        return action

    def test_an_attempt_that_ends_by_an_error(self):
        actors = ["r", "writer", "writer", "r", "writer"]
        for error in (NoActor("z"), NothingToUndo(), TurnError(), ValueError("a"), Other(), KeyError(1), Exception(),
                      RuntimeError(), ZeroDivisionError(), AttributeError(), StopIteration(3), AssertionError(),
                      OSError(), RecursionError(), TypeError()):
            for undone in range(len(actors) + 5):
                clock = led(PLAIN, TURN, actors)
                with self.assertRaises(type(error)) as caught:
                    clock.attempt(self.failing(error, ["r", "r", "writer", "r"], undone))
                self.assertIs(caught.exception, error)
                self.check_same(clock, PLAIN, TURN, actors)

    def test_an_error_of_the_clock_itself(self):
        for action, error in ((lambda held: [held.step("r"), held.step("z")], NoActor),
                              (lambda held: [held.step("r"), held.held("z")], NoRegister),
                              (lambda held: [held.step("r")] + [held.undo() for _ in range(9)], NothingToUndo)):
            clock = led(PLAIN, TURN, ["writer", "writer", "r"])
            with self.assertRaises(error):
                clock.attempt(action)
            self.check_same(clock, PLAIN, TURN, ["writer", "writer", "r"])

    def test_an_error_that_the_action_catches_is_none(self):
        clock = led(PLAIN, TURN, ["writer"])

        def action(held):
            held.step("writer")
            with self.assertRaises(NoActor):
                held.step("z")
            return held.step("r")

        self.assertEqual(clock.attempt(action), ("r", 0, None))
        self.check_same(clock, PLAIN, TURN, ["writer", "writer", "r"])

    def test_undo_within_an_attempt(self):
        clock = led(PLAIN, TURN, ["writer", "writer", "writer", "r"])
        clock.attempt(lambda held: [held.undo(), held.undo(), held.undo(), held.step("r")])
        self.check_same(clock, PLAIN, TURN, ["writer", "r"])

    def test_calls_that_were_undone_and_done_otherwise_come_back(self):
        actors = ["r", "r", "r", "writer", "writer", "r", "r", "r"]
        clock = led(PLAIN, TURN, actors)
        before = clock.calls()

        def action(held):
            for _ in range(6):
                held.undo()
            for actor in ["writer"] * 3 + ["r"] * 7:
                held.step(actor)
            self.assertEqual([call[1] for call in held.calls()], [0, 1, 1])
            raise Other()

        with self.assertRaises(Other):
            clock.attempt(action)
        self.assertEqual(clock.calls(), before)
        self.check_same(clock, PLAIN, TURN, actors)

    def test_attempts_within_attempts(self):
        def inner(held):
            held.step("writer")
            held.attempt(lambda other: other.step("writer"))
            raise Other()

        def outer(held):
            held.step("r")
            with self.assertRaises(Other):
                held.attempt(inner)
            self.assertEqual(held.held("x"), (0, 9))
            return held.step("writer")

        clock = led(PLAIN, TURN, ["r"])
        self.assertEqual(clock.attempt(outer), ("writer", 0, None))
        self.check_same(clock, PLAIN, TURN, ["r", "r", "writer"])

    def test_an_attempt_that_ended_well_within_one_that_does_not(self):
        def outer(held):
            held.undo()
            held.attempt(lambda other: [other.step("writer"), other.undo(), other.undo(), other.step("r")])
            held.step("writer")
            raise Other()

        clock = led(PLAIN, TURN, ["r", "writer", "writer"])
        with self.assertRaises(Other):
            clock.attempt(outer)
        self.check_same(clock, PLAIN, TURN, ["r", "writer", "writer"])

    def test_many_attempts_within_each_other(self):
        def action(left):
            def told(held):
                held.step("r")
                if left:
                    held.attempt(action(left - 1))
                else:
                    raise Other()
            return told

        clock = led(PLAIN, TURN, ["r"])
        with self.assertRaises(Other):
            clock.attempt(action(50))
        self.check_same(clock, PLAIN, TURN, ["r"])

    def test_attempts_at_random(self):
        for seed in range(40):
            maker = Maker(seed)
            made = World(maker.text())
            values = maker.values(2, 4)
            pick = random.Random(seed)
            actors = maker.order(20)
            clock = led(made, values, actors)
            for _ in range(15):
                actors = self.lead(clock, pick, maker, actors, 3)
                self.assertEqual(clock.calls(), made.run(values, actors))
            self.check_same(clock, made, values, actors)

    def lead(self, clock, pick, maker, actors, depth):
        """Do, undo and attempt something, and return the actors of the steps that are not undone then."""
        kind = pick.choice(["step", "undo", "attempt", "attempt"])
        if kind == "step":
            more = maker.order(pick.randint(1, 6))
            for actor in more:
                clock.step(actor)
            return actors + more
        if kind == "undo":
            many = min(len(actors), pick.randint(0, 8))
            for _ in range(many):
                clock.undo()
            return actors[:len(actors) - many]
        if depth == 0:
            return actors
        fails = pick.random() < 0.5

        def action(held):
            told = actors
            for _ in range(3):
                told = self.lead(held, pick, maker, told, depth - 1)
            if fails:
                raise Other()
            return told

        try:
            return clock.attempt(action)
        except Other:
            return actors


class ArgumentsTest(ClockTest):
    def test_two_clocks_over_one_world(self):
        one, two = Clock(PAIR, ROWS), Clock(PAIR, TURN)
        left, right = [], []
        for at, actor in enumerate(["writer", "r", "q", "writer", "r", "writer", "q", "writer", "r"] * 4):
            if at % 3:
                one.step(actor)
                left.append(actor)
            else:
                two.step(actor)
                right.append(actor)
        one.undo()
        left.pop()
        two.attempt(lambda held: one.step("r"))
        left.append("r")
        self.check_same(one, PAIR, ROWS, left)
        self.check_same(two, PAIR, TURN, right)

    def test_an_attempt_of_one_clock_does_not_change_another(self):
        one, two = Clock(PLAIN, TURN), Clock(PLAIN, TURN)

        def action(held):
            two.step("writer")
            held.step("writer")
            raise Other()

        with self.assertRaises(Other):
            one.attempt(action)
        self.check_same(one, PLAIN, TURN, [])
        self.check_same(two, PLAIN, TURN, ["writer"])

    def test_lists_and_tuples(self):
        for values in ([[0, 9], [1, 0]], ((0, 9), (1, 0)), ([0, 9], (1, 0))):
            before = copy.deepcopy(values)
            clock = led(PLAIN, values, ["writer", "writer", "r", "r", "r"])
            self.assertEqual((clock.held("x"), clock.calls()), ((0, 0), [("r", 0, 1, {"v": (0, 0)})]))
            self.assertEqual(values, before)
            self.assertIs(type(clock.held("x")), tuple)

    def test_values_are_copied(self):
        values = [[0, 9], [1, 0]]
        clock = Clock(PLAIN, values)
        values[1][1] = 7
        values[0][0] = 7
        values.clear()
        self.assertEqual(clock.held("x"), (0, 9))
        for _ in range(3):
            clock.step("writer")
        self.assertEqual(clock.held("x"), (1, 0))

    def test_what_is_told_is_new(self):
        clock = led(PLAIN, TURN, ["r"] * 6)
        told = clock.calls()
        self.assertEqual(told, [("r", 0, 0, {"v": (0, 9)})] * 2)
        told[0][3]["v"] = "changed"
        told[1][3].clear()
        told.clear()
        self.assertEqual(clock.calls(), [("r", 0, 0, {"v": (0, 9)})] * 2)
        self.assertIsNot(clock.calls()[0][3], clock.calls()[0][3])

    def test_kinds_of_what_is_told(self):
        clock = led(PLAIN, TURN, ["r"] * 3)
        self.assertEqual([type(part) for part in (clock.calls(), clock.calls()[0], clock.calls()[0][3],
                                                  clock.calls()[0][3]["v"], clock.step("r"), clock.held("x"))],
                         [list, tuple, dict, tuple, tuple, tuple])

    def test_wrong_values(self):
        for values, index in (([], 0), ([()], 0), ((), 0), ([(), (1,)], 0), ([(1,), ()], 1), ([(1,), (1, 2)], 1),
                              ([(2, 0), (1, 9)], 1), ([(0,), (5,), (4,)], 2), ([(0, 9), [1, 0], [0, 9]], 2)):
            with self.assertRaises(BadValues) as caught:
                Clock(PLAIN, values)
            self.assertEqual(caught.exception.index, index)

    def test_what_is_refused_changes_nothing(self):
        actors = ["r", "writer", "writer", "r"]
        for name in ("z", "x", "v", "", "Writer", "reader", "r ", "f"):
            clock = led(PLAIN, TURN, actors)
            with self.assertRaises(NoActor) as caught:
                clock.step(name)
            self.assertEqual(caught.exception.name, name)
            self.check_same(clock, PLAIN, TURN, actors)
        for name in ("z", "r", "v", "", "writer", "X", "x ", "not a name", "f", "register"):
            clock = led(PLAIN, TURN, actors)
            with self.assertRaises(NoRegister) as caught:
                clock.held(name)
            self.assertEqual(caught.exception.name, name)
            self.check_same(clock, PLAIN, TURN, actors)
        clock = Clock(PLAIN, TURN)
        self.check_nothing_to_undo(clock)
        self.check_same(clock, PLAIN, TURN, [])


if __name__ == "__main__":
    unittest.main()
