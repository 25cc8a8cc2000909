"""Points 2, 5, 6, 7 and 10: runs and their steps."""

import copy
import itertools
import unittest

from digitsturn.errors import BadValues, NoActor
from digitsturn.versions import is_at_most, shown
from digitsturn.worlds import World

from model import Maker, Model

PLAIN = World("register x\nwriter\nwrite x up\nreader r\nread x down as v")
MARKED = World(
    "flag f 2\nregister x\nwriter\nset f 1\nwrite x up\nset f 0\nreader r\nread x up as v\nlook f as s\n"
    "if s is 1\nagain\nelse\nend"
)
WAITS = World("flag f 2\nregister x\nwriter\nwrite x up\nset f 1\nreader r\nwait f 1\nread x up as v")
TURN = [(0, 9), (1, 0)]


def world(*rows):
    return World("\n".join(rows))


def reading_world(*rows, flags=("flag f 2", "flag g 4"), writer=("write x up",)):
    """Return a world with the given lines of its reader, the first one of which is the line told as well."""
    head = [*flags, "register x", "writer", *writer, "reader r"]
    return world(*head, *rows), len(head) + 1


def done(made, values, actors):
    """Return (line, cell) for each step of a run."""
    return [step[1:] for step in made.steps(values, actors)]


def lines_done(made, values, actors):
    return [line for line, _ in done(made, values, actors)]


class DocumentTest(unittest.TestCase):
    def test_plain(self):
        actors = ["r", "r", "writer", "writer", "r", "writer", "r", "r", "r"]
        self.assertEqual(PLAIN.run(TURN, actors), [("r", 0, 1, {"v": (0, 0)}), ("r", 1, 1, {"v": (1, 0)})])
        self.assertEqual(list(PLAIN.steps(TURN, ["r", "r", "writer", "writer", "writer", "writer"])), [
            ("r", 0, None), ("r", 5, 0), ("writer", 0, None), ("writer", 3, 1), ("writer", 3, 0), ("writer", None, None),
        ])

    def test_marked(self):
        actors = ["writer", "writer", "r", "r", "r", "r", "r", "r"]
        self.assertEqual(list(MARKED.steps([(7,), (8,)], actors)), [
            ("writer", 0, None), ("writer", 4, None), ("r", 0, None), ("r", 8, 0), ("r", 9, None), ("r", 10, None),
            ("r", 11, None), ("r", 8, 0),
        ])
        actors = ["r", "r", "r", "r", "writer", "r", "writer", "writer", "r", "r", "r", "r"]
        self.assertEqual(MARKED.run([(7,), (8,)], actors), [("r", 0, 0, {"v": (7,)})])

    def test_waits(self):
        actors = ["r", "r", "writer", "writer", "writer", "r", "r"]
        self.assertEqual(list(WAITS.steps([(7,), (8,)], actors)), [
            ("r", 0, None), ("r", None, None), ("writer", 0, None), ("writer", 4, 0), ("writer", 5, None),
            ("r", 7, None), ("r", 8, 0),
        ])


class SweepTest(unittest.TestCase):
    def test_directions(self):
        values = [(1, 2, 3, 4), (5, 6, 7, 8)]
        for cells in range(1, 5):
            rows = [value[:cells] for value in values]
            for direction, order in (("down", list(range(cells))), ("up", list(range(cells))[::-1])):
                made = world("register x", "writer", f"write x {direction}", "reader r", f"read x {direction} as v")
                self.assertEqual(
                    done(made, rows, ["writer"] * (cells + 1)), [(0, None)] + [(3, cell) for cell in order])
                self.assertEqual(done(made, rows, ["r"] * (cells + 1)), [(0, None)] + [(5, cell) for cell in order])

    def test_what_is_written_cell_by_cell(self):
        for direction, found in (("up", [(1, 2, 3), (1, 2, 6), (1, 5, 6), (4, 5, 6)]),
                                 ("down", [(1, 2, 3), (4, 2, 3), (4, 5, 3), (4, 5, 6)])):
            made = world("register x", "writer", f"write x {direction}", "reader r", "read x up as v")
            for many in range(4):
                actors = ["writer"] * (many + 1) + ["r"] * 4
                calls = made.run([(1, 2, 3), (4, 5, 6)], actors)
                self.assertEqual(calls, [("r", 1 if many == 3 else 0, 1, {"v": found[many]})])

    def test_what_is_read_cell_by_cell(self):
        for direction, found in (("up", [(4, 5, 6), (4, 5, 3), (4, 2, 3), (1, 2, 3)]),
                                 ("down", [(4, 5, 6), (1, 5, 6), (1, 2, 6), (1, 2, 3)])):
            made = world("register x", "writer", "write x up", "reader r", f"read x {direction} as v")
            for many in range(4):
                actors = ["r"] * (many + 1) + ["writer"] * 4 + ["r"] * (3 - many)
                calls = made.run([(1, 2, 3), (4, 5, 6)], actors)
                self.assertEqual(calls, [("r", 0, 0 if many == 3 else 1, {"v": found[many]})])

    def test_the_greatest_digit_comes_first_in_a_reading(self):
        for direction in ("up", "down"):
            made = world("register x", "writer", "write x up", "reader r", f"read x {direction} as v")
            self.assertEqual(made.run([(7, 8, 9)], ["r"] * 4), [("r", 0, 0, {"v": (7, 8, 9)})])

    def test_two_registers_one_never_written(self):
        made = world("register x", "register y", "writer", "write y down", "reader r", "read x up as v", "read y up as w")
        calls = made.run([(0, 9), (1, 0)], ["writer"] * 3 + ["r"] * 5)
        self.assertEqual(calls, [("r", 1, 1, {"v": (0, 9), "w": (1, 0)})])

    def test_registers_written_one_after_the_other(self):
        made = world("register x", "register y", "writer", "write x up", "write y up", "write x down", "reader r",
                     "read y up as w", "read x up as v")
        steps = done(made, TURN, ["writer"] * 8)
        self.assertEqual(steps, [(0, None), (4, 1), (4, 0), (5, 1), (5, 0), (6, 0), (6, 1), (None, None)])
        self.assertEqual(made.run(TURN, ["writer"] * 3 + ["r"] * 5), [("r", 0, 1, {"w": (0, 9), "v": (1, 0)})])

    def test_two_readers_have_their_own_readings(self):
        made = world("register x", "writer", "write x up", "reader r", "read x up as v", "reader q", "read x down as w")
        calls = made.run(TURN, ["q", "r", "r", "q", "writer", "writer", "writer", "q", "r"])
        self.assertEqual(calls, [("q", 0, 1, {"w": (0, 0)}), ("r", 0, 1, {"v": (1, 9)})])

    def test_great_rows(self):
        values = [tuple([version] * 60) for version in range(61)]
        actors = ["writer"] * 900 + ["r"] * 61 + ["writer"] * 900 + ["r"] * 61
        calls = PLAIN.run(values, actors)
        self.assertEqual(calls[0], ("r", 14, 15, {"v": (14,) * 15 + (15,) * 45}))
        self.assertEqual(calls[1], ("r", 29, 30, {"v": (29,) * 30 + (30,) * 30}))
        self.assertEqual(len(list(PLAIN.steps(values, actors))), len(actors))

    def test_great_digits(self):
        low, high = 10 ** 999, 10 ** 999 + 1
        self.assertEqual(PLAIN.run([(low,), (high,)], ["writer", "writer", "r", "r"]), [("r", 1, 1, {"v": (high,)})])
        with self.assertRaises(BadValues):
            PLAIN.run([(high,), (low,)], [])


class RoundTest(unittest.TestCase):
    def test_the_first_round_is_that_of_version_1(self):
        self.assertEqual(PLAIN.run([(3,), (4,)], ["writer", "r", "r"]), [("r", 0, 1, {"v": (3,)})])
        self.assertEqual(PLAIN.run([(3,), (4,)], ["writer", "writer", "r", "r"]), [("r", 1, 1, {"v": (4,)})])

    def test_rounds_run_out(self):
        self.assertEqual(done(PLAIN, [(3,)], ["writer", "writer"]), [(None, None)] * 2)
        steps = done(PLAIN, [(3,), (4,), (4,)], ["writer"] * 6)
        self.assertEqual(steps, [(0, None), (3, 0), (0, None), (3, 0), (None, None), (None, None)])

    def test_a_round_that_cannot_begin_changes_nothing(self):
        calls = PLAIN.run([(3,)], ["writer", "r", "writer", "writer", "r", "r", "r"])
        self.assertEqual(calls, [("r", 0, 0, {"v": (3,)})] * 2)
        made = world("flag f 2", "register x", "writer", "step f", "write x up", "reader r", "wait f 0", "read x up as v")
        self.assertEqual(len(made.run([(3,)], ["writer"] * 9 + ["r"] * 3)), 1)

    def test_old_and_new(self):
        values = [(0,), (1,), (2,), (3,)]
        for before, old in enumerate((0, 0, 1, 1, 2, 2, 3, 3, 3)):
            for within, new in enumerate((0, 1, 1, 2, 2, 3, 3, 3, 3)):
                if within >= before:
                    actors = ["writer"] * before + ["r"] + ["writer"] * (within - before) + ["r"]
                    call, = PLAIN.run(values, actors)
                    self.assertEqual(call[:3], ("r", old, new))

    def test_calls_are_told_in_the_order_of_their_ends(self):
        made = world("register x", "writer", "write x up", "reader r", "read x up as v", "reader q", "read x up as w")
        for actors, readers in ((["r", "q", "q", "r"], ["q", "r"]), (["q", "r", "q", "r"], ["q", "r"]),
                                (["r", "q", "r", "q", "r", "r"], ["r", "q", "r"])):
            self.assertEqual([call[0] for call in made.run([(0,)], actors)], readers)

    def test_calls_that_have_not_ended_are_not_told(self):
        self.assertEqual(PLAIN.run(TURN, []), [])
        self.assertEqual(PLAIN.run(TURN, ["r"]), [])
        self.assertEqual(PLAIN.run(TURN, ["r", "r"]), [])
        self.assertEqual(len(PLAIN.run(TURN, ["r"] * 5)), 1)

    def test_a_new_call_has_no_readings_yet(self):
        made, first = reading_world("look f as s", "if s is 0", "read x up as v", "end", "step f")
        calls = made.run([(5,)], ["r"] * 9)
        self.assertEqual(calls, [("r", 0, 0, {"v": (5,)}), ("r", 0, 0, {})])


class FlagTest(unittest.TestCase):
    def test_flags_hold_0_at_the_beginning(self):
        made, first = reading_world("wait f 0", "wait g 0", "read x up as v")
        self.assertEqual(lines_done(made, [(1,)], ["r"] * 4), [0, first, first + 1, first + 2])

    def test_set(self):
        for number in range(4):
            made, first = reading_world(f"set g {number}", f"wait g {number}", "wait f 0", "read x up as v")
            self.assertEqual(lines_done(made, [(1,)], ["r"] * 4), [0, first, first + 1, first + 2])

    def test_step_goes_round(self):
        for bound in (2, 3, 4):
            for many in range(1, 6):
                made, first = reading_world(
                    *["step f"] * many, f"wait f {many % bound}", "read x up as v", flags=(f"flag f {bound}",))
                self.assertEqual(lines_done(made, [(1,)], ["r"] * (many + 2))[-1], first + many)
                wrong = (many + 1) % bound
                made, first = reading_world(
                    *["step f"] * many, f"wait f {wrong}", "read x up as v", flags=(f"flag f {bound}",))
                self.assertEqual(lines_done(made, [(1,)], ["r"] * (many + 2))[-1], None)

    def test_a_line_changes_only_its_own_flag(self):
        made, first = reading_world("set g 3", "step f", "wait f 1", "wait g 3", "step g", "wait g 0", "wait f 1",
                                    "read x up as v")
        self.assertEqual(lines_done(made, [(1,)], ["r"] * 9), [0] + list(range(first, first + 8)))

    def test_wait_that_does_not_go_on_changes_nothing(self):
        steps = done(WAITS, [(7,), (8,)], ["r"] * 4 + ["writer"] * 3 + ["r"] * 3)
        self.assertEqual(steps, [(0, None)] + [(None, None)] * 3 + [(0, None), (4, 0), (5, None), (7, None), (8, 0),
                                                                   (0, None)])

    def test_the_writer_waits_too(self):
        made = world("flag f 2", "register x", "writer", "wait f 1", "write x up", "set f 0", "reader r", "set f 1",
                     "read x up as v")
        steps = done(made, [(0,), (1,), (2,)], ["writer"] * 2 + ["r"] * 2 + ["writer"] * 6)
        self.assertEqual(steps, [(0, None), (None, None), (0, None), (8, None), (4, None), (5, 0), (6, None), (0, None),
                                 (None, None), (None, None)])

    def test_flags_are_common_and_stay_between_rounds_and_calls(self):
        made = world("flag f 3", "register x", "writer", "write x up", "step f", "reader r", "wait f 2", "step f",
                     "read x up as v")
        actors = ["writer"] * 6 + ["r"] * 4 + ["r"] * 2
        self.assertEqual(lines_done(made, [(0,)] * 3, actors), [0, 4, 5, 0, 4, 5, 0, 7, 8, 9, 0, None])

    def test_each_run_begins_with_flags_at_0(self):
        for _ in range(2):
            self.assertEqual(lines_done(WAITS, [(7,), (8,)], ["writer"] * 3 + ["r"] * 2), [0, 4, 5, 0, 7])
            self.assertEqual(lines_done(WAITS, [(7,), (8,)], ["r"] * 2), [0, None])


class MarkTest(unittest.TestCase):
    def branch(self, *rows):
        """Tell which reading a call takes: v within the block that the rows open, w behind its `else`."""
        made, _ = reading_world(*rows, "read x up as v", "else", "read x up as w", "end")
        (_, _, _, readings), = made.run([(6,)], ["r"] * (len(rows) + 2))
        return "".join(readings)

    def test_a_mark_and_a_number(self):
        for held, asked in itertools.product(range(4), range(4)):
            told = self.branch(f"set g {held}", "look g as s", f"if s is {asked}")
            self.assertEqual(told, "v" if held == asked else "w")

    def test_two_marks(self):
        for one, two in itertools.product(range(4), range(4)):
            told = self.branch(f"set g {one}", "look g as s", f"set g {two}", "look g as t", "if s is t")
            self.assertEqual(told, "v" if one == two else "w")

    def test_marks_hold_0_as_long_as_nothing_was_put_into_them(self):
        self.assertEqual(self.branch("if s is 0"), "v")
        self.assertEqual(self.branch("if s is 1"), "w")
        self.assertEqual(self.branch("if s is t"), "v")
        self.assertEqual(self.branch("set f 1", "look f as s", "if s is t"), "w")
        self.assertEqual(self.branch("set f 1", "look f as s", "if t is s"), "w")
        self.assertEqual(self.branch("set f 1", "look f as s", "if t is 0"), "v")

    def test_a_mark_is_not_the_flag(self):
        self.assertEqual(self.branch("set f 1", "if f is 1"), "w")
        self.assertEqual(self.branch("look f as f", "set f 1", "if f is 0"), "v")
        self.assertEqual(self.branch("set f 1", "look f as x", "set f 0", "if x is 1"), "v")

    def test_the_latest_look_counts(self):
        self.assertEqual(self.branch("set g 3", "look g as s", "look f as s", "if s is 0"), "v")
        self.assertEqual(self.branch("set g 3", "look g as s", "look f as t", "if s is 3"), "v")

    def test_each_actor_has_its_own_marks(self):
        made = world("flag f 2", "register x", "writer", "set f 1", "look f as s", "write x up", "reader r",
                     "if s is 1", "read x up as v", "end", "reader q", "look f as s", "if s is 1", "read x up as w", "end")
        calls = made.run([(0,), (1,)], ["writer"] * 4 + ["r", "q", "q", "r", "q", "q"])
        self.assertEqual(calls, [("r", 1, 1, {}), ("q", 1, 1, {"w": (1,)})])

    def test_marks_hold_0_at_the_beginning_of_a_call(self):
        made, first = reading_world("if s is 1", "read x up as v", "end", "set f 1", "look f as s")
        self.assertEqual(made.run([(1,)], ["r"] * 8), [("r", 0, 0, {})] * 2)

    def test_marks_hold_0_at_the_beginning_of_a_round(self):
        made = world("flag f 2", "register x", "writer", "if s is 0", "write x up", "end", "set f 1", "look f as s",
                     "reader r", "read x up as v")
        self.assertEqual(lines_done(made, [(0,)] * 3, ["writer"] * 10), [0, 4, 5, 7, 8] * 2)

    def test_again_puts_marks_to_0(self):
        made, first = reading_world("if s is 1", "read x up as v", "end", "set f 1", "look f as s", "again")
        self.assertEqual(
            lines_done(made, [(1,)], ["r"] * 9), [0] + [first, first + 3, first + 4, first + 5] * 2)


class BlockTest(unittest.TestCase):
    def lines(self, rows, many):
        """Return the lines that a reader does, the first one of its lines counted as 1."""
        made, first = reading_world(*rows)
        told = lines_done(made, [(5,)], ["r"] * (many + 1))
        self.assertEqual(told[0], 0)
        return [0 if line == 0 else line - first + 1 for line in told[1:]]

    def test_without_else(self):
        self.assertEqual(self.lines(["if s is 0", "step f", "end", "read x up as v"], 4), [1, 2, 4, 0])
        self.assertEqual(self.lines(["if s is 1", "step f", "end", "read x up as v"], 3), [1, 4, 0])

    def test_with_else(self):
        rows = ["step f", "else", "step g", "end", "read x up as v"]
        self.assertEqual(self.lines(["if s is 0", *rows], 4), [1, 2, 6, 0])
        self.assertEqual(self.lines(["if s is 1", *rows], 4), [1, 4, 6, 0])

    def test_empty_blocks(self):
        for number in "01":
            begin = f"if s is {number}"
            self.assertEqual(self.lines([begin, "end", "read x up as v"], 3), [1, 3, 0])
            self.assertEqual(self.lines([begin, "else", "end", "read x up as v"], 3), [1, 4, 0])
        self.assertEqual(self.lines(["if s is 0", "else", "step f", "end", "read x up as v"], 3), [1, 5, 0])
        self.assertEqual(self.lines(["if s is 1", "step f", "else", "end", "read x up as v"], 3), [1, 5, 0])

    def test_at_the_end_of_a_call(self):
        self.assertEqual(self.lines(["read x up as v", "if s is 0", "step f", "end"], 4), [1, 2, 3, 0])
        self.assertEqual(self.lines(["read x up as v", "if s is 1", "step f", "end"], 3), [1, 2, 0])
        self.assertEqual(self.lines(["read x up as v", "if s is 0", "end"], 3), [1, 2, 0])
        self.assertEqual(self.lines(["read x up as v", "if s is 0", "step f", "else", "step g", "end"], 4), [1, 2, 3, 0])
        self.assertEqual(self.lines(["read x up as v", "if s is 1", "step f", "else", "step g", "end"], 4), [1, 2, 5, 0])
        self.assertEqual(self.lines(["if s is 0", "read x up as v", "else", "end"], 3), [1, 2, 0])
        self.assertEqual(self.lines(["if s is 1", "else", "if s is 0", "read x up as v", "end", "end"], 4), [1, 3, 4, 0])

    def test_a_sweep_of_several_cells_at_the_end_of_a_block(self):
        made, first = reading_world("if s is 0", "read x down as v", "else", "step f", "end")
        steps = done(made, [(1, 2, 3)], ["r"] * 6)
        self.assertEqual(steps, [(0, None), (first, None), (first + 1, 0), (first + 1, 1), (first + 1, 2), (0, None)])

    def test_at_the_end_of_a_round(self):
        for number, inner in (("0", [6]), ("1", [])):
            made = world("flag f 2", "register x", "writer", "write x up", f"if s is {number}", "step f", "end",
                         "reader r", "read x up as v")
            self.assertEqual(lines_done(made, [(0,)] * 3, ["writer"] * (4 + len(inner))), [0, 4, 5] + inner + [0])
        calls = made.run([(0,), (1,)], ["writer"] * 3 + ["r"] * 2)
        self.assertEqual(calls, [("r", 1, 1, {"v": (1,)})])

    def test_nested_blocks(self):
        rows = ["if s is {}", "if s is {}", "if s is {}", "step f", "else", "step g", "end", "else", "step f", "end",
                "else", "step g", "end", "read x up as v"]
        wanted = {(0, 0, 0): [1, 2, 3, 4, 14], (0, 0, 1): [1, 2, 3, 6, 14], (0, 1, 0): [1, 2, 9, 14],
                  (0, 1, 1): [1, 2, 9, 14], (1, 0, 0): [1, 12, 14], (1, 1, 1): [1, 12, 14]}
        for numbers, told in wanted.items():
            made = [row.format(number) for row, number in zip(rows, numbers)] + rows[3:]
            self.assertEqual(self.lines(made, len(told) + 1), told + [0])

    def test_ends_of_several_blocks_take_no_step(self):
        rows = ["if s is 0", "if s is 0", "if s is 0", "end", "end", "end", "read x up as v"]
        self.assertEqual(self.lines(rows, 5), [1, 2, 3, 7, 0])
        rows = ["read x up as v", "if s is 0", "if s is 1", "else", "if s is 0", "end", "end", "else", "step f", "end"]
        self.assertEqual(self.lines(rows, 5), [1, 2, 3, 5, 0])

    def test_the_last_block_of_an_actor_does_not_lead_into_the_next_one(self):
        made = world("register x", "writer", "if s is 1", "write x up", "end", "reader r", "if s is 1", "else",
                     "read x up as v", "end", "reader q", "read x up as w")
        self.assertEqual(lines_done(made, [(0,)] * 3, ["writer"] * 4 + ["r"] * 4), [0, 3, 0, 3, 0, 7, 9, 0])


class AgainTest(unittest.TestCase):
    def test_within_a_block(self):
        made, first = reading_world("step g", "look g as s", "read x up as v", "if s is 3", "else", "again", "end",
                                    "read x down as w")
        inner = [first, first + 1, first + 2, first + 3]
        wanted = [0] + (inner + [first + 5]) * 2 + inner + [first + 7, 0]
        self.assertEqual(lines_done(made, [(5,)], ["r"] * len(wanted)), wanted)
        self.assertEqual(made.run([(5,)], ["r"] * len(wanted)), [("r", 0, 0, {"v": (5,), "w": (5,)})])

    def test_as_the_last_line_the_call_goes_on(self):
        made, first = reading_world("read x up as v", "again")
        self.assertEqual(lines_done(made, [(5,)], ["r"] * 7), [0] + [first, first + 1] * 3)
        self.assertEqual(made.run([(5,)], ["r"] * 50), [])

    def test_as_the_last_line_of_a_block_at_the_end(self):
        made, first = reading_world("read x up as v", "step f", "look f as s", "if s is 1", "again", "end")
        inner = [first, first + 1, first + 2, first + 3]
        wanted = [0] + inner + [first + 4] + inner + [0]
        self.assertEqual(lines_done(made, [(5,)], ["r"] * len(wanted)), wanted)

    def test_takes_readings_away(self):
        made, first = reading_world("look f as s", "if s is 0", "read x up as v", "set f 1", "again", "end")
        self.assertEqual(made.run([(5,)], ["r"] * 8), [("r", 0, 0, {})])
        made, first = reading_world("look f as s", "if s is 0", "read x up as v", "set f 1", "again", "end",
                                    "read x up as w")
        self.assertEqual(made.run([(5,)], ["r"] * 9), [("r", 0, 0, {"w": (5,)})])

    def test_a_reading_is_read_anew(self):
        actors = ["writer", "writer", "r", "r", "r", "r", "r", "writer", "writer", "r", "r", "r"]
        self.assertEqual(MARKED.run([(7,), (8,)], actors), [("r", 0, 1, {"v": (8,)})])

    def test_old_is_that_of_the_beginning(self):
        made, first = reading_world("read x up as v", "look f as s", "if s is 0", "set f 1", "again", "end")
        actors = ["r"] * 5 + ["writer"] * 4 + ["r"] * 4
        self.assertEqual(made.run([(5,), (6,), (7,)], actors), [("r", 0, 2, {"v": (7,)})])


class ArgumentsTest(unittest.TestCase):
    actors = ["r", "writer", "writer", "r", "writer", "r", "r"]

    def test_lists_and_tuples(self):
        calls = PLAIN.run(TURN, self.actors)
        steps = list(PLAIN.steps(TURN, self.actors))
        self.assertEqual(len(calls), 1)
        for values in ([[0, 9], [1, 0]], ((0, 9), (1, 0)), ([0, 9], (1, 0)), [(0, 9), [1, 0]]):
            for actors in (self.actors, tuple(self.actors)):
                self.assertEqual(PLAIN.run(values, actors), calls)
                self.assertEqual(list(PLAIN.steps(values, actors)), steps)
                self.assertIs(type(PLAIN.run(values, actors)[0][3]["v"]), tuple)

    def test_kinds_of_what_is_told(self):
        calls = PLAIN.run([[0, 9], [1, 0]], tuple(self.actors))
        self.assertIs(type(calls), list)
        self.assertIs(type(calls[0]), tuple)
        self.assertIs(type(calls[0][3]), dict)
        self.assertIs(type(calls[0][3]["v"]), tuple)
        told = PLAIN.steps(TURN, self.actors)
        self.assertIs(iter(told), told)
        self.assertIs(type(told), type(step for step in ()))
        self.assertEqual({type(step) for step in told}, {tuple})

    def test_what_is_handed_in_stays_as_it_was(self):
        values, actors = [[0, 9], [1, 0]], list(self.actors)
        before = copy.deepcopy((values, actors))
        PLAIN.run(values, actors)
        list(PLAIN.steps(values, actors))
        self.assertEqual((values, actors), before)

    def test_what_is_told_is_new_each_time(self):
        first = PLAIN.run(TURN, self.actors)
        again = copy.deepcopy(first)
        first[0][3]["v"] = "changed"
        first.clear()
        self.assertEqual(PLAIN.run(TURN, self.actors), again)
        made = world("register x", "writer", "write x up", "reader r", "read x up as v")
        calls = made.run([(1,)], ["r"] * 4)
        calls[0][3]["v"] = "changed"
        self.assertEqual(calls[1][3], {"v": (1,)})

    def test_steps_do_not_see_later_changes_of_the_lists(self):
        values, actors = [[0], [1], [2]], ["writer", "writer", "r", "r"]
        told = PLAIN.steps(values, actors)
        steps = [next(told)]
        values[1][0] = 9
        values.clear()
        actors.clear()
        self.assertEqual(steps + list(told), [("writer", 0, None), ("writer", 3, 0), ("r", 0, None), ("r", 5, 0)])

    def test_generators_do_not_disturb_each_other(self):
        one, two = (MARKED.steps([(7,), (8,)], ["writer"] * 4 + ["r"] * 4) for _ in range(2))
        pairs = list(zip(one, two))
        self.assertEqual([pair[0] for pair in pairs], [pair[1] for pair in pairs])

    def told_values(self, values):
        """Return the index that both calls tell."""
        with self.assertRaises(BadValues) as caught:
            PLAIN.run(values, ["r"])
        with self.assertRaises(BadValues) as again:
            list(PLAIN.steps(values, ["r"]))
        self.assertEqual(caught.exception.index, again.exception.index)
        return again.exception.index

    def test_wrong_values(self):
        self.assertEqual(self.told_values([]), 0)
        self.assertEqual(self.told_values(()), 0)
        self.assertEqual(self.told_values([()]), 0)
        self.assertEqual(self.told_values([[]]), 0)
        self.assertEqual(self.told_values([(), (1,)]), 0)
        self.assertEqual(self.told_values([(), ()]), 0)
        right = [(0, 9), (1, 0), (1, 0), (1, 1), (2, 0)]
        for at in range(1, 5):
            for wrong in ((), (9,), (9, 9, 9), (right[at - 1][0], right[at - 1][1] - 1)):
                self.assertEqual(self.told_values(right[:at] + [wrong] + right[at + 1:]), at)
        self.assertEqual(self.told_values([(2, 0), (1, 9)]), 1)
        self.assertEqual(self.told_values([(0,), (5,), (4,), ()]), 2)
        self.assertEqual(self.told_values([(0, 9), (1, 0), [0, 9]]), 2)

    def test_values_are_compared_by_the_first_digit_in_which_they_differ(self):
        PLAIN.run([(0, 9, 9), (1, 0, 0), (1, 0, 9), (1, 1, 0)], [])
        PLAIN.run([(1, 99), (2, 0), (10, 0)], [])

    def test_equal_values(self):
        self.assertEqual(PLAIN.run([(4,)] * 3, ["writer"] * 3 + ["r"] * 2), [("r", 1, 2, {"v": (4,)})])

    def told_name(self, values, actors):
        with self.assertRaises(NoActor) as caught:
            PLAIN.run(values, actors)
        with self.assertRaises(NoActor) as again:
            list(PLAIN.steps(values, actors))
        self.assertEqual(caught.exception.name, again.exception.name)
        return again.exception.name

    def test_names_that_are_no_actors(self):
        for name in ("q", "x", "v", "Writer", "reader", "", "r ", "writer r"):
            self.assertEqual(self.told_name(TURN, [name]), name)
            self.assertEqual(self.told_name(TURN, ["r", "writer", name, "other"]), name)
        self.assertEqual(self.told_name(TURN, ("writer", "a", "b")), "a")

    def test_a_name_that_is_no_actor_counts_though_its_step_would_come_late(self):
        self.assertEqual(self.told_name(TURN, ["r"] * 50 + ["v"]), "v")

    def test_names_ahead_of_wrong_values(self):
        for values in ([], [()], [(2,), (1,)]):
            self.assertEqual(self.told_name(values, ["r", "q"]), "q")

    def test_wrong_values_without_any_step(self):
        with self.assertRaises(BadValues):
            PLAIN.run([(2,), (1,)], [])
        with self.assertRaises(BadValues):
            list(PLAIN.steps([(2,), (1,)], []))


class ModelTest(unittest.TestCase):
    def test_many_worlds_against_another_way_to_lead_runs(self):
        ended = 0
        for seed in range(600):
            maker = Maker(seed)
            text = maker.text()
            values = maker.values(seed % 4 + 1, maker.random.randint(1, 6))
            actors = maker.order(120)
            model = Model(text, values)
            steps = [model.step(actor) for actor in actors]
            made = World(text)
            self.assertEqual(list(made.steps(values, actors)), steps, text)
            self.assertEqual(made.run(values, actors), model.calls, text)
            ended += len(model.calls)
        self.assertGreater(ended, 1000)


class FewerCellsTest(unittest.TestCase):
    """Point 10: what of a run remains when cells are left out."""

    def run_over(self, made, cells, kept, actors):
        """Return the calls of a run over all cells and over the kept ones; each digit tells its version."""
        values = [(version,) * cells for version in range(9)]
        left = [step[0] for step in made.steps(values, actors) if step[2] is None or step[2] in kept]
        return made.run(values, actors), made.run([value[:len(kept)] for value in values], left), left

    def test_a_run_over_the_other_cells_remains(self):
        for seed in range(150):
            maker = Maker(seed)
            made = World(maker.text())
            actors = maker.order(150)
            for many in (1, 2):
                for kept in itertools.combinations(range(3), many):
                    whole, fewer, _ = self.run_over(made, 3, kept, actors)
                    for reader in made.readers:
                        self.check([call for call in whole if call[0] == reader],
                                   [call for call in fewer if call[0] == reader], kept)

    def check(self, whole, fewer, kept):
        self.assertIn(len(fewer) - len(whole), (0, 1))
        for (_, old, new, readings), (_, later, sooner, rest) in zip(whole, fewer):
            self.assertGreaterEqual(later, old)
            self.assertLessEqual(sooner, new)
            self.assertEqual(rest, {name: tuple(row[cell] for cell in kept) for name, row in readings.items()})

    def test_a_round_and_a_call_may_end_earlier(self):
        actors = ["writer"] * 2 + ["r"] * 3 + ["writer"]
        whole, fewer, left = self.run_over(PLAIN, 2, (1,), actors)
        self.assertEqual((whole, left), ([("r", 0, 1, {"v": (0, 1)})], ["writer", "writer", "r", "r"]))
        self.assertEqual(fewer, [("r", 1, 1, {"v": (1,)})])

    def test_what_is_broken_remains_broken_with_the_right_cells(self):
        broken = 0
        for seed in range(150):
            maker = Maker(seed)
            made = World(maker.text())
            actors = maker.order(150)
            whole = made.run([(version,) * 3 for version in range(9)], actors)
            for at, (reader, old, _, readings) in enumerate(whole):
                for name, versions in readings.items():
                    if not is_at_most([old] * 3, versions):
                        broken += 1
                        nth = [call[0] for call in whole[:at]].count(reader)
                        self.check_broken(made, actors, (reader, nth, name), shown([old] * 3, versions))
        self.assertGreater(broken, 20)

    def check_broken(self, made, actors, call, values):
        reader, nth, name = call
        kept = [cell for cell in range(3) if len({value[cell] for value in values}) == 2]
        _, _, left = self.run_over(made, 3, kept, actors)
        last = values[-1]
        few = [tuple(value[cell] for cell in kept) for value in values + [last] * (9 - len(values))]
        _, old, _, readings = [told for told in made.run(few, left) if told[0] == reader][nth]
        self.assertLess(readings[name], few[old])


if __name__ == "__main__":
    unittest.main()
