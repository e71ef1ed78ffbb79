"""Promise [3.1] and stage 3: texts of programs."""

import unittest

from answeredabove.base.programs import Procedure, Program
from answeredabove.errors import InvalidProgram, ParseError
from answeredabove.text.texts import read_program, write_program
from tests.helpers import FULL, NEED, NO_PROGRAMS, ODD, BOOLS, PASS, Checks
from tests.samples import programs

NEED_TEXT = """modes 2 starts 0 signals need
procedure main 3
  call 0 1 work in 0 on need fix 02
  leave 1 in 0 1
  leave 2 in 0
procedure work 2
  raise 0 1 need in 0 1
  leave 1 in 1
procedure fix 1
  go 0 0 by 01
  leave 0 in 0 1"""

# A program all names of which are words of the text.
WORDS = Program(
    2, (0, 1), ("by", "on", "starts"),
    Procedure(
        "on", 2, ("call", 0, 1, "in", (0,), (("by", "on", ()), ("on", "on", ((0, 0), (1, 1))), ("starts", "by", ()))),
        ("raise", 1, 0, "on", (1,)), ("raise", 1, 0, "starts", (0, 1)),
    ),
    Procedure("in", 1), Procedure("by", 1, ("leave", 0, (0,))), Procedure("modes", 1), Procedure("signals", 2),
    Procedure("leave", 3), Procedure("go", 6), Procedure("call", 1, ("call", 0, 0, "call", (1,), ())),
    Procedure("raise", 1),
)
WORDS_TEXT = """modes 2 starts 0 1 signals by on starts
procedure on 2
  call 0 1 in in 0 on by on on on on 00 11 on starts by
  raise 1 0 on in 1
  raise 1 0 starts in 0 1
procedure in 1
procedure by 1
  leave 0 in 0
procedure modes 1
procedure signals 2
procedure leave 3
procedure go 6
procedure call 1
  call 0 0 call in 1
procedure raise 1"""
MOVES = ["go 0 0 by 00", "call 0 0 p in 0", "call 0 0 p in 0 on s p 00 on t p", "raise 0 0 s in 0", "leave 0 in 0"]


def text_with(line, signals="s t"):
    """The text of a program of one procedure, with this line behind the procedure's."""
    return f"modes 1 starts 0 signals {signals}\nprocedure p 1\n{line}"


class TestWritten(Checks):
    def test_the_examples(self):
        start = ["modes 2 starts 0 signals need", "procedure main 3", "  call 0 1 work in 0 on need fix 02"]
        self.assertEqual(write_program(NEED).split("\n")[:3], start)
        self.assertEqual(write_program(NEED), NEED_TEXT)

    def test_the_documents_lines(self):
        made = Program(
            2, (0, 1), ("need", "stop"),
            Procedure(
                "p", 4, ("go", 0, 1, ((0, 0), (0, 1), (1, 0))), ("call", 0, 1, "p", (0, 1), ()),
                ("call", 0, 1, "p", (0,), (("need", "fix", ((0, 2), (1, 3))), ("stop", "halt", ()))),
                ("raise", 0, 1, "need", (1,)), ("leave", 1, (0, 1)),
            ),
            Procedure("fix", 1), Procedure("halt", 1),
        )
        lines = [
            "modes 2 starts 0 1 signals need stop", "procedure p 4", "  go 0 1 by 00 01 10", "  call 0 1 p in 0 1",
            "  call 0 1 p in 0 on need fix 02 13 on stop halt", "  raise 0 1 need in 1", "  leave 1 in 0 1",
            "procedure fix 1", "procedure halt 1",
        ]
        self.assertEqual(write_program(made).split("\n"), lines)

    def test_no_signals_and_few_or_many_modes(self):
        self.assertEqual(write_program(Program(1, (0,), (), Procedure("p", 1))),
                         "modes 1 starts 0 signals\nprocedure p 1")
        self.assertEqual(write_program(Program(4, (0, 1, 2, 3), ("a",), Procedure("p", 6, ("leave", 5, (0, 3))))),
                         "modes 4 starts 0 1 2 3 signals a\nprocedure p 6\n  leave 5 in 0 3")

    def test_names_that_are_words(self):
        self.assertEqual(write_program(WORDS), WORDS_TEXT)

    def test_no_program(self):
        for value in NO_PROGRAMS:
            self.refuse(InvalidProgram, write_program, value)


class TestRead(Checks):
    def refuse_line(self, index, text):
        self.assertEqual(self.refuse(ParseError, read_program, text).line, index, text)

    def test_what_is_written_is_read(self):
        for made in (NEED, PASS, FULL, WORDS, *programs(1, 100)):
            text = write_program(made)
            self.assertEqual(read_program(text), made)
            self.assertEqual(write_program(read_program(text)), text)

    def test_the_examples(self):
        self.assertEqual(read_program(NEED_TEXT), NEED)
        self.assertEqual(read_program(WORDS_TEXT), WORDS)

    def test_no_string(self):
        for value in [each for each in ODD + BOOLS if not isinstance(each, str)] + [0, (), (NEED_TEXT,), NEED]:
            self.refuse(InvalidProgram, read_program, value)

    def test_strings_of_no_use(self):
        for value in [each for each in ODD if isinstance(each, str)]:
            self.refuse_line(0, value)

    def test_empty_lines(self):
        self.refuse_line(0, "")
        self.refuse_line(0, "\n")
        self.refuse_line(11, NEED_TEXT + "\n")
        self.refuse_line(0, "\n" + NEED_TEXT)
        self.refuse_line(2, NEED_TEXT.replace("3\n", "3\n\n", 1))

    def test_blanks_at_the_end_of_a_line(self):
        lines = NEED_TEXT.split("\n")
        for index, line in enumerate(lines):
            for wrong in (line + " ", line + "  ", " " + line, line.replace(" ", "  "), line.replace(" ", "", 1)):
                self.refuse_line(index, "\n".join(lines[:index] + [wrong] + lines[index + 1:]))

    def test_the_first_wrong_line(self):
        lines = NEED_TEXT.split("\n")
        for index in range(len(lines)):
            for later in range(index, len(lines)):
                wrong = [line + " " if at in (index, later) else line for at, line in enumerate(lines)]
                self.refuse_line(index, "\n".join(wrong))

    def test_a_first_line_out_of_its_place(self):
        first = "modes 1 starts 0 signals"
        self.refuse_line(1, first + "\n" + first)
        self.refuse_line(2, f"{first}\nprocedure p 1\n{first}")
        self.refuse_line(3, f"{first}\nprocedure p 1\n  leave 0 in 0\n{first}\nprocedure q 1")
        self.refuse_line(0, "procedure p 1")
        self.refuse_line(0, f"procedure p 1\n{first}")

    def test_a_move_ahead_of_a_procedure(self):
        for move in MOVES:
            self.refuse_line(0, "  " + move)
            self.refuse_line(1, f"modes 1 starts 0 signals s t\n  {move}")
            self.refuse_line(1, f"modes 1 starts 0 signals s t\n  {move}\nprocedure p 1")
            self.assertEqual(len(read_program(text_with("  " + move))["p"]), 1)

    def test_other_blanks_ahead(self):
        for move in MOVES:
            for ahead in ("", " ", "   ", "    "):
                self.refuse_line(2, text_with(ahead + move))
        self.refuse_line(1, "modes 1 starts 0 signals\n  procedure p 1")
        self.refuse_line(0, "  modes 1 starts 0 signals\nprocedure p 1")

    def test_no_modes(self):
        for move in ("go 0 0 by", "call 0 0 p in", "call 0 0 p in on s p", "raise 0 0 s in", "leave 0 in"):
            self.refuse_line(2, text_with("  " + move))
        for first in ("modes 1 starts signals", "modes 1 starts signals s", "modes starts 0 signals"):
            self.refuse_line(0, first + "\nprocedure p 1")

    def test_first_lines_of_no_form(self):
        for first in (
            "modes", "modes 1", "modes 1 starts", "modes 1 starts 0", "modes 1 starts 0 s", "modes 11 starts 0 signals",
            "modes 1 starts 00 signals", "modes 1 starts 0 signals S", "modes 1 starts 0 signals abcdefghi",
            "modes 1 starts 0 signals s 0", "modes -1 starts 0 signals", "modes a starts 0 signals",
            "modes 1 starts 0 a signals", "modes 1 start 0 signals", "Modes 1 starts 0 signals",
            "modes 1 starts 0, signals", "modes 1 starts 0 signals need,stop", "modes 1 starts 0 signals 0",
        ):
            self.refuse_line(0, first)
            self.refuse_line(0, first + "\nprocedure p 1")

    def test_procedures_of_no_form(self):
        for line in (
            "procedure", "procedure p", "procedure p 10", "procedure p 1 1", "procedure P 1", "procedure 1 p",
            "procedure abcdefghi 1", "procedure p a", "procedure p -1", "procedures p 1", "procedure p  1",
        ):
            self.refuse_line(1, "modes 1 starts 0 signals\n" + line)

    def test_moves_of_no_form(self):
        for move in (
            "go", "go 0", "go 0 0", "go 0 0 by 0", "go 0 0 by 000", "go 0 0 by 00 0", "go 0 0 by 00 on", "go 0 0 00",
            "go 00 0 by 00", "go 0 a by 00", "go 0 0 in 00", "go 0 0 0 by 00", "go 0 0 by 0a", "Go 0 0 by 00",
            "call 0 0 p", "call 0 0 p in 00", "call 0 0 P in 0", "call 0 0 p by 0", "call 0 0 in 0", "call 0 p in 0",
            "call 0 0 p in 0 on", "call 0 0 p in 0 on s", "call 0 0 p in 0 on s p 0", "call 0 0 p in 0 on s p on",
            "call 0 0 p in 0 on s p 00 t p", "call 0 0 p in 0 s p 00", "call 0 0 p in 0 on s 00", "call 0 0 p 0",
            "call 0 0 p in 0 on 0 p", "call 0 0 p in 0 on s p 00 on t", "call 0 0 p in a", "call 0 0 p in 0 in 0",
            "call 00 0 p in 0", "call 0 a p in 0", "call 0 0 p in 0 by s p", "call 0 0 p in 0 on s p 00 s t p",
            "raise a 0 s in 0", "raise 0 12 s in 0", "raise 0 0 s", "raise 0 0 s in 0 on s p", "raise 0 0 in 0", "raise 0 0 S in 0", "raise 0 0 s in 00",
            "raise 0 0 s by 0", "raise 0 s in 0", "raise 0 0 s in 0 a", "leave 0 0 in 0", "leave 0 in 00", "leave in 0",
            "leave 0 by 0", "leave 0 0", "leave 00 in 0", "leave 0 in 0 a", "stay 0 in 0", "procedure p 1", "",
        ):
            self.refuse_line(2, text_with("  " + move))

    def test_which_names_and_digits_does_not_matter_for_a_line(self):
        for first in (
            "modes 0 starts 0 signals", "modes 9 starts 0 signals", "modes 1 starts 1 signals",
            "modes 2 starts 1 0 signals", "modes 2 starts 0 0 signals", "modes 1 starts 0 signals t s",
            "modes 1 starts 0 signals s s", "modes 1 starts 0 signals a b c d", "modes 1 starts 9 signals signals",
        ):
            self.refuse(InvalidProgram, read_program, first + "\nprocedure p 1")
            self.refuse_line(2, first + "\nprocedure p 1\n ")
        for line in ("procedure p 0", "procedure p 7", "procedure p 9", "procedure p 1\nprocedure p 1"):
            self.refuse(InvalidProgram, read_program, "modes 1 starts 0 signals\n" + line)
        for move in (
            "go 1 0 by 00", "go 0 1 by 00", "go 0 0 by 01", "go 0 0 by 00 00", "go 9 9 by 99", "call 0 0 q in 0",
            "call 0 0 p in 1", "call 0 0 p in 0 0", "call 0 0 p in 0 on u p", "call 0 0 p in 0 on s q",
            "call 0 0 p in 0 on s p 01", "call 0 0 p in 0 on s p 10", "call 0 0 p in 0 on s p 00 00",
            "call 0 0 p in 0 on t p on s p", "call 0 0 p in 0 on s p on s p", "raise 0 0 u in 0", "raise 0 0 s in 1",
            "leave 1 in 0", "leave 0 in 1", "leave 0 in 0 0",
        ):
            self.refuse(InvalidProgram, read_program, text_with("  " + move))

    def test_no_procedure(self):
        self.refuse(InvalidProgram, read_program, "modes 1 starts 0 signals")

    def test_many_procedures_and_moves(self):
        first = "modes 1 starts 0 signals\n"
        for many, error in ((9, None), (10, InvalidProgram)):
            text = first + "\n".join(f"procedure p{letter} 1" for letter in "abcdefghij"[:many])
            if error is None:
                self.assertEqual(len(read_program(text)), many)
            else:
                self.refuse(error, read_program, text)
        text = first + "procedure p 1" + "\n  leave 0 in 0" * 12
        self.assertEqual(len(read_program(text)["p"]), 12)
        self.refuse(InvalidProgram, read_program, text + "\n  leave 0 in 0")

    def test_a_line_that_is_wrong_comes_ahead_of_what_is_no_program(self):
        self.refuse_line(2, "modes 0 starts 9 signals b a\nprocedure p 0\n  leave 0 in")


if __name__ == "__main__":
    unittest.main()
