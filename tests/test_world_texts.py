"""Points 2, 3 and 4: what the text of a world is, and which line of it is wrong."""

import unittest

from digitsturn.errors import BadWorld, TurnError
from digitsturn.worlds import World

PLAIN = "register x\nwriter\nwrite x up\nreader r\nread x down as v"
MARKED = (
    "flag f 2\nregister x\nwriter\nset f 1\nwrite x up\nset f 0\nreader r\nread x up as v\nlook f as s\n"
    "if s is 1\nagain\nelse\nend"
)
WAITS = "flag f 2\nregister x\nwriter\nwrite x up\nset f 1\nreader r\nwait f 1\nread x up as v"
FULL = "\n".join([
    "flag f 2", "flag g 3", "flag h 4", "register x", "register y",
    "writer", "set h 3", "step g", "wait f 1", "look h as s", "if s is t", "if s is 0", "if t is 3", "write x up",
    "else", "end", "end", "write y down", "else", "end",
    "reader r", "again", "read x up as v", "if x is f", "end", "read y down as w", "look f as v",
    "reader q", "if a is 2", "read x up as u", "else", "again", "end", "wait h 3",
])
GOOD = (PLAIN, MARKED, WAITS, FULL)
RESERVED = (
    "flag register writer reader write read up down as set step look wait if is else end again old new then whole "
    "any perhaps"
).split()
NO_NAMES = RESERVED + ["", "A", "aB", "a1", "a_b", "a-b", "1", "0", "abcdefghijklm", "a.", "~", "X"]
NAMES = ["a", "z", "abcdefghijkl", "writers", "flags", "ups", "registers", "isa", "al", "whol"]


def wrong_line(text):
    """Return the line that BadWorld tells, or None if the text is that of a world."""
    try:
        World(text)
    except BadWorld as error:
        return error.line
    return None


def with_line(text, number, line):
    """Return the text with another line in one place."""
    lines = text.split("\n")
    lines[number - 1] = line
    return "\n".join(lines)


def lines(*rows):
    return "\n".join(rows)


class TextTest(unittest.TestCase):
    def wrong(self, line, *rows):
        self.assertEqual(wrong_line("\n".join(rows)), line, rows)

    def right(self, *rows):
        self.assertIsNone(wrong_line("\n".join(rows)), rows)

    def wrong_in(self, text, number, *candidates):
        for line in candidates:
            self.assertEqual(wrong_line(with_line(text, number, line)), number, line)

    def right_in(self, text, number, *candidates):
        for line in candidates:
            self.assertIsNone(wrong_line(with_line(text, number, line)), line)


class WorldTest(TextTest):
    def test_attributes(self):
        world = World(FULL)
        self.assertEqual(world.text, FULL)
        self.assertEqual(world.flags, ("f", "g", "h"))
        self.assertEqual(world.registers, ("x", "y"))
        self.assertEqual(world.readers, ("r", "q"))
        self.assertEqual(world.readings, ("v", "w", "u"))
        for told in (world.flags, world.registers, world.readers, world.readings):
            self.assertIs(type(told), tuple)

    def test_attributes_of_a_small_world(self):
        world = World(PLAIN)
        told = (world.flags, world.registers, world.readers, world.readings)
        self.assertEqual(told, ((), ("x",), ("r",), ("v",)))

    def test_names_stand_in_the_order_of_their_lines(self):
        world = World(lines(
            "flag z 2", "flag a 2", "register y", "register b", "writer", "write y up", "reader x",
            "read y up as w", "read b up as c", "reader d", "read b up as aa",
        ))
        told = (world.flags, world.registers, world.readers, world.readings)
        self.assertEqual(told, (("z", "a"), ("y", "b"), ("x", "d"), ("w", "c", "aa")))

    def test_equality_by_text(self):
        self.assertTrue(World(PLAIN) == World(PLAIN))
        self.assertFalse(World(PLAIN) != World(PLAIN))
        self.assertFalse(World(PLAIN) == World(PLAIN.replace("down", "up")))
        self.assertTrue(World(PLAIN) != World(PLAIN.replace("v", "w")))
        self.assertFalse(World(PLAIN) == PLAIN)
        self.assertTrue(World(PLAIN) != PLAIN)
        self.assertFalse(World(PLAIN) == None)  # noqa: E711

    def test_worlds_of_the_document(self):
        for text in GOOD:
            self.assertIsNone(wrong_line(text))

    def test_the_error_is_one_of_the_package(self):
        with self.assertRaises(TurnError):
            World("")

    def test_methods_stand_in_the_class_itself(self):
        self.assertTrue({"run", "steps", "__init__", "__eq__"} <= set(vars(World)))
        self.assertEqual(World.__module__, "digitsturn.worlds")


class LackingTest(TextTest):
    def test_the_empty_text_has_no_lines(self):
        self.wrong(1, "")

    def test_what_is_lacking_at_the_end(self):
        self.wrong(2, "flag f 2")
        self.wrong(2, "register x")
        self.wrong(3, "register x", "writer")
        self.wrong(4, "register x", "writer", "write x up")
        self.wrong(5, "register x", "writer", "write x up", "reader r")
        self.wrong(6, "flag f 2", "register x", "writer", "write x up", "if s is 0")
        self.wrong(6, *PLAIN.split("\n")[:4], "again")
        self.wrong(7, *PLAIN.split("\n"), "if s is 0")
        self.wrong(8, *PLAIN.split("\n"), "if s is 0", "else")
        self.wrong(9, *PLAIN.split("\n"), "if s is 0", "if s is 0", "end")
        self.wrong(7, *PLAIN.split("\n"), "reader q")

    def test_each_beginning_of_a_world_is_one_or_lacks_something_at_its_end(self):
        for text in GOOD:
            rows = text.split("\n")
            for many in range(len(rows)):
                self.assertIn(wrong_line("\n".join(rows[:many])), (None, many + 1))

    def test_beginnings_that_are_worlds(self):
        rows = FULL.split("\n")
        whole = [many for many in range(len(rows) + 1) if wrong_line("\n".join(rows[:many])) is None]
        self.assertEqual(whole, [23, 25, 26, 27, 33, 34])

    def test_the_first_wrong_line_is_told_and_not_what_is_lacking(self):
        self.wrong(1, "flag f", "nonsense")
        self.wrong(2, "register x", "nonsense", "nonsense")
        self.wrong(1, "nonsense", "register x", "writer", "write x up")

    def test_the_number_of_lines_plus_one_may_be_41(self):
        rows = PLAIN.split("\n")[:4] + ["again"] * 36
        self.wrong(41, *rows)
        self.right(*rows[:39], "read x up as v")


class LinesTest(TextTest):
    def test_line_41_is_wrong(self):
        rows = PLAIN.split("\n") + ["again"] * 35
        self.right(*rows)
        self.wrong(41, *rows, "again")
        self.wrong(41, *rows, "again", "again")
        self.wrong(41, *rows, "nonsense")
        self.wrong(40, *rows[:39], "nonsense", "again")

    def test_empty_lines(self):
        for text in GOOD:
            rows = text.split("\n")
            for at in range(len(rows) + 1):
                self.wrong(at + 1, *rows[:at], "", *rows[at:])
        self.wrong(1, "", "")
        self.wrong(1, " ")

    def test_spaces(self):
        for text in GOOD:
            for number, line in enumerate(text.split("\n"), 1):
                self.wrong_in(text, number, " " + line, line + " ", line + "  ")
                if " " in line:
                    self.wrong_in(text, number, line.replace(" ", "  ", 1), line.replace(" ", "", 1))

    def test_lines_of_no_form(self):
        junk = (
            "nonsense", "FLAG f 2", "Writer", "readers r", "flags", "is", "as", "up", "v", "0", "old", "then", "any",
            "perhaps", "perhaps write x up", "write x any", "#", "~",
        )
        for text in GOOD:
            for number in range(1, len(text.split("\n")) + 1):
                self.wrong_in(text, number, *junk)

    def test_a_word_too_many_or_too_few(self):
        for text in GOOD:
            for number, line in enumerate(text.split("\n"), 1):
                self.wrong_in(text, number, line + " x", line + " up", line + " 0")
                if " " in line:
                    self.wrong_in(text, number, line.rpartition(" ")[0], line.split(" ")[0])

    def test_words_of_the_forms(self):
        self.wrong_in(FULL, 23, "read x up is v", "read x up v as", "read up x as v", "read x as v", "read x up as")
        self.wrong_in(FULL, 23, "read x left as v", "read x any as v", "read x Up as v", "read x 0 as v")
        self.wrong_in(FULL, 10, "look h is s", "look s as h", "look h as 0", "look as h s")
        self.wrong_in(FULL, 11, "if s as t", "if s = t", "if 0 is s", "if 0 is 0", "if s is", "if is s t")
        self.wrong_in(FULL, 14, "write x left", "write up x", "write x Up", "write x up down", "write x 0")
        self.wrong_in(FULL, 6, "writer w", "writer writer")
        self.wrong_in(FULL, 15, "else if", "else s is 0")
        self.wrong_in(FULL, 16, "end if")
        self.wrong_in(FULL, 22, "again r")


class NamesTest(TextTest):
    def world(self, flag="f", register="x", reader="r", reading="v", mark="s", other="t"):
        return lines(
            "flag " + flag + " 2", "register " + register, "writer", "write " + register + " up", "step " + flag,
            "reader " + reader, "read " + register + " up as " + reading, "look " + flag + " as " + mark,
            "if " + mark + " is " + other, "end",
        )

    def test_words_that_are_names(self):
        for name in NAMES:
            for kind in ("flag", "register", "reader", "reading", "mark", "other"):
                self.right(self.world(**{kind: name}))

    def test_words_that_are_no_names(self):
        places = {"flag": 1, "register": 2, "reader": 6, "reading": 7, "mark": 8}
        for name in NO_NAMES:
            for kind, line in places.items():
                self.wrong(line, self.world(**{kind: name}))
            self.wrong_in(self.world(), 9, "if " + name + " is s")
            if name not in ("0", "1"):
                self.wrong(9, self.world(other=name))

    def test_taken_names(self):
        rows = lines(
            "flag a 2", "flag b 2", "register c", "register d", "writer", "write c up", "reader e",
            "read c up as g", "read c up as h", "reader i", "read d up as j",
        )
        forms = {2: "flag {} 2", 3: "register {}", 4: "register {}", 7: "reader {}", 8: "read c up as {}",
                 9: "read c up as {}", 10: "reader {}", 11: "read d up as {}"}
        owners = {1: "a", 2: "b", 3: "c", 4: "d", 7: "e", 8: "g", 9: "h", 10: "i"}
        self.right(rows)
        for number, form in forms.items():
            for owner, name in owners.items():
                if owner < number:
                    self.wrong_in(rows, number, form.format(name))

    def test_a_later_line_is_wrong_if_an_earlier_one_took_its_name(self):
        rows = PLAIN.split("\n") + ["reader q", "read x up as w"]
        self.right(*rows)
        self.wrong(6, *with_line(lines(*rows), 5, "read x down as q").split("\n"))
        self.wrong(7, *with_line(lines(*rows), 6, "reader w").split("\n"))

    def test_marks_may_have_names_of_other_things(self):
        for name in ("f", "x", "r", "v", "s"):
            self.right(self.world(mark=name, other=name))
        self.right(self.world() + lines("", "reader q", "read x up as s", "look f as v", "look f as q"))

    def test_marks_are_no_names_that_are_taken(self):
        self.right(lines(
            "flag f 2", "register x", "writer", "look f as s", "write x up", "reader s", "read x up as t",
        ))

    def test_flags_and_registers_that_are_not_there(self):
        self.wrong_in(FULL, 7, "set x 0", "set r 0", "set s 0", "set nil 0", "set y 0")
        self.wrong_in(FULL, 8, "step x", "step nil", "step s")
        self.wrong_in(FULL, 9, "wait x 0", "wait nil 0", "wait writer 0")
        self.wrong_in(FULL, 10, "look x as s", "look nil as s", "look s as s")
        self.wrong_in(FULL, 14, "write f up", "write nil up", "write r up", "write s up")
        self.wrong_in(FULL, 23, "read f up as v", "read nil up as v", "read v up as v")
        self.wrong_in(WAITS, 7, "wait v 1", "wait r 1", "wait x 1")


class NumbersTest(TextTest):
    def test_bounds_of_flags(self):
        self.right_in(WAITS, 1, "flag f 2", "flag f 3", "flag f 4")
        self.wrong_in(
            WAITS, 1, "flag f 0", "flag f 1", "flag f 5", "flag f 10", "flag f 22", "flag f 02", "flag f +2", "flag f -2",
            "flag f 2.0", "flag f two", "flag f f", "flag f " + "9" * 5000, "flag f 0x2", "flag f 1_0", "flag 2 f",
        )

    def test_numbers_of_flags(self):
        for bound in (2, 3, 4):
            text = with_line(WAITS, 1, "flag f " + str(bound))
            for number in range(6):
                told = self.right_in if number < bound else self.wrong_in
                told(text, 5, "set f " + str(number))
                told(text, 7, "wait f " + str(number))

    def test_numbers_of_each_flag_are_its_own(self):
        rows = lines("flag f 2", "flag g 4", "register x", "writer", "write x up", "set g 3", "reader r", "read x up as v")
        self.right(rows)
        self.wrong_in(rows, 6, "set f 3", "wait f 2", "set g 4", "wait g 4")

    def test_needless_zeros_and_signs(self):
        for number in ("00", "01", "+1", "-1", "-0", "1.", "", "s", "1_1", " 1", "one"):
            self.wrong_in(WAITS, 5, "set f " + number)
            self.wrong_in(WAITS, 7, "wait f " + number)

    def test_numbers_of_marks(self):
        for number in ("0", "1", "2", "3"):
            self.right_in(MARKED, 10, "if s is " + number)
        self.wrong_in(MARKED, 10, "if s is 4", "if s is 5", "if s is 00", "if s is 03", "if s is -1", "if s is 10")


class PartsTest(TextTest):
    def test_flags(self):
        flags = ["flag a 2", "flag b 2", "flag c 2", "flag d 2"]
        for many in range(4):
            self.right(*flags[:many], PLAIN)
        self.wrong(4, *flags, PLAIN)

    def test_registers(self):
        rows = PLAIN.split("\n")
        self.wrong(1, *rows[1:])
        self.right("register y", *rows)
        self.wrong(3, "register y", "register z", *rows)

    def test_readers(self):
        self.right(PLAIN, "reader q", "read x up as w")
        self.wrong(8, PLAIN, "reader q", "read x up as w", "reader p", "read x up as u")

    def test_two_writers(self):
        rows = PLAIN.split("\n")
        self.wrong(3, *rows[:2], "writer", *rows[2:])
        self.wrong(4, *rows[:3], "writer", "write x up", *rows[3:])
        self.wrong(6, *rows, "writer", "write x up")

    def test_parts_out_of_order(self):
        head, writer, reader = ["register x"], ["writer", "write x up"], ["reader r", "read x up as v"]
        self.wrong(1, *writer, *head, *reader)
        self.wrong(2, *head, *reader, *writer)
        self.wrong(1, *reader, *head, *writer)
        self.wrong(2, *head, "flag f 2", *writer, *reader)
        self.wrong(4, *head, *writer, "flag f 2", *reader)
        self.wrong(4, *head, *writer, "register y", *reader)
        self.wrong(6, *head, *writer, *reader, "flag f 2")
        self.wrong(6, *head, *writer, *reader, "register y")
        self.wrong(2, "flag f 2", *writer, *reader)
        self.wrong(1, "reader r")
        self.wrong(1, "writer")

    def test_lines_of_actors_ahead_of_all_actors(self):
        own = ("write x up", "read x up as v", "set f 0", "step f", "look f as s", "wait f 0", "if s is 0", "else",
               "end", "again")
        for line in own:
            self.wrong(1, line, PLAIN)
            self.wrong(3, "flag f 2", "register x", line, *PLAIN.split("\n")[1:])

    def test_lines_of_the_other_actors(self):
        self.wrong_in(PLAIN, 3, "read x up as w", "again")
        self.wrong_in(PLAIN, 5, "write x up", "write x down")
        self.wrong(6, PLAIN, "write x up")
        self.wrong(8, PLAIN, "reader q", "read x up as w", "write x up")
        self.wrong(4, "register x", "writer", "write x up", "again", "reader r", "read x up as v")
        self.wrong(4, "register x", "writer", "write x up", "read x up as w", "reader r", "read x up as v")

    def test_a_writer_without_a_line_write(self):
        self.wrong(3, "register x", "writer", "reader r", "read x up as v")
        self.wrong(5, "flag f 2", "register x", "writer", "set f 1", "reader r", "read x up as v")

    def test_a_reader_without_a_line_read(self):
        rows = PLAIN.split("\n")
        self.wrong(5, *rows[:4], "reader q", "read x up as w")
        self.wrong(6, *rows[:4], "again", "reader q", "read x up as w")
        self.wrong(7, *rows, "reader q")

    def test_sweeps_within_blocks_count(self):
        self.right(
            "register x", "writer", "if s is 1", "write x up", "end", "reader r", "if s is 1", "else", "read x up as v",
            "end",
        )


class BlocksTest(TextTest):
    def after(self, *rows):
        """Return the wrong line of the plain world with more lines of its reader, counted from its end."""
        line = wrong_line(lines(PLAIN, *rows))
        return None if line is None else line - 5

    def test_blocks(self):
        self.assertIsNone(self.after("if s is 0", "end"))
        self.assertIsNone(self.after("if s is 0", "else", "end"))
        self.assertIsNone(self.after("if s is 0", "again", "else", "again", "end", "if s is 0", "end"))

    def test_else_and_end_without_a_block(self):
        self.assertEqual(self.after("else"), 1)
        self.assertEqual(self.after("end"), 1)
        self.assertEqual(self.after("if s is 0", "end", "end"), 3)
        self.assertEqual(self.after("if s is 0", "end", "else"), 3)
        self.assertEqual(self.after("if s is 0", "else", "end", "else", "end"), 4)

    def test_else_twice(self):
        self.assertEqual(self.after("if s is 0", "else", "else", "end"), 3)
        self.assertEqual(self.after("if s is 0", "else", "again", "else", "end"), 4)
        self.assertEqual(self.after("if s is 0", "else", "if s is 0", "else", "end", "else", "end"), 6)
        self.assertIsNone(self.after("if s is 0", "if s is 0", "else", "end", "else", "if s is 0", "else", "end", "end"))

    def test_at_most_three_blocks_are_open(self):
        opens = ["if s is 0"] * 3
        self.assertIsNone(self.after(*opens, "end", "end", "end"))
        self.assertEqual(self.after(*opens, "if s is 0", "end", "end", "end", "end"), 4)
        self.assertIsNone(self.after(*opens, "end", "if s is 0", "end", "end", "end"))
        self.assertEqual(self.after(*opens, "else", "if s is 0", "end", "end", "end", "end"), 5)
        self.assertIsNone(self.after("if s is 0", "end", "if s is 0", "end", "if s is 0", "end", "if s is 0", "end"))

    def test_blocks_that_are_not_closed_ahead_of_a_reader(self):
        rows = PLAIN.split("\n")
        self.wrong(5, *rows[:3], "if s is 0", *rows[3:])
        self.wrong(6, *rows[:3], "if s is 0", "else", *rows[3:])
        self.wrong(7, *rows, "if s is 0", "reader q", "read x up as w")
        self.wrong(4, *rows[:2], "if s is 0", *rows[3:])

    def test_blocks_do_not_go_on_in_another_actor(self):
        self.wrong(8, PLAIN, "reader q", "read x up as w", "end")
        self.wrong(8, PLAIN, "reader q", "read x up as w", "else")


if __name__ == "__main__":
    unittest.main()
