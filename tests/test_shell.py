"""Promise [16.1] and stage 16: a shell."""

import random
import unittest

from answeredabove.ask.ends import outcome
from answeredabove.ask.nests import deepest
from answeredabove.ask.watch import Answers, answerers
from answeredabove.base.programs import Procedure, Program
from answeredabove.errors import (
    InvalidCommand, InvalidNumber, InvalidOperation, InvalidProgram, ParseError, TooMany, UnknownName, UnknownSite,
)
from answeredabove.run.runs import Run
from answeredabove.same.editions import new_ends
from answeredabove.text.shell import MAX_PROGRAMS, Shell
from answeredabove.text.texts import read_program, write_program
from tests.crowds import set_out
from tests.helpers import BOOLS, FIX, NEED, ODD, PASS, Checks
from tests.samples import lively
from tests.test_ends import TWO
from tests.test_project import errors_of
from tests.test_watch import AGAIN, BARE, ONE_MORE

NEW = "new need\n" + write_program(NEED)
DEEDS = ("new", "copy", "drop", "go", "back", "cut")
FORTY, MORE = "1" + "0" * 39, "1" + "0" * 40
# None of these is a command by its words, whatever programs there are.
NO_COMMANDS = [value for value in ODD if not (isinstance(value, str) and value.startswith("new"))] + BOOLS + [
    "", " ", "\n", "new", "copy", "drop", "go", "back", "cut", "text", "where", "ends", "depth", "idle", "who", "new-ends",
    "new need", "new need more\n", "new  need\n", " new need\n", "new need \n", "new Need\n", "new needlessly\n", "new \n",
    "new\n", "new 0\n", "New need\n" + write_program(NEED), "new\nneed", "newneed\n", "new need\r\n",
    "copy need", "copy need more less", "copy need  more", "copy need more ", " copy need more", "copy need more\n",
    "copy need 0", "copy Need more", "copy need\nmore", "drop", "drop need more", "drop need ", "drop need\n", "drop  need",
    "go need", "go need 0 0", "go need 00", "go need 01", "go need -1", "go need +1", "go need 1.0", "go need one",
    "go need 0\n", "go need  0", "go need 0 ", "go 0 need", "go need " + MORE, "go need 0x1", "go need 1_0", "go need ",
    "go need \n0", "go Need 0", "back need", "back need -1", "back need 00", "back need 1\n", "back need " + "9" * 41,
    "cut need main 0", "cut need main need 0", "cut need main 00 need", "cut need main 0 need ", "cut need main 0 Need",
    "cut need main 0 need\n", "cut need 0 main need", "cut main 0 need", "cut need main -1 need", "cut need main 0 need 0",
    "text need ", "text need\n", "text need more", "text Need", "where need 0", "where  need", "ends need\n", "ends",
    "depth need 1", "depth need\n", "idle need more", "idle ", "who need work", "who need work 00", "who need 0 work",
    "who need work 0\n", "who need work 0 0", "who need Work 0", "who work 0", "new-ends need", "new-ends need more\n",
    "new-ends need  more", "new-ends need more less", "new-end need more", "newends need more", "new ends need",
    "help", "quit", "show need", "run need", "TEXT need", "text\tneed", "text need;", "tex need", 0, (),
    ("text", "need"), ["text need"], {"text": "need"}, FIX, None,
]


def is_word(word):
    return 1 <= len(word) <= 8 and all("a" <= letter <= "z" for letter in word)


class Account:
    """A plain account of what a shell is, for commands that have their form."""

    def __init__(self):
        self.kept, self.script = {}, []

    def run(self, command):
        line, _, text = command.partition("\n")
        first, *words = line.split(" ")
        for name in {"new": [], "new-ends": words}.get(first, words[:1]):
            if name not in self.kept:
                raise UnknownName(name)
        if first in ("new", "copy") and words[-1] in self.kept:
            raise InvalidOperation()
        reply = getattr(self, first.replace("-", "_"))(*words, *([text] if first == "new" else []))
        if first in DEEDS:
            self.script.append(command)
        return reply

    def room(self):
        if len(self.kept) == 8:
            raise TooMany(8)

    def new(self, name, text):
        program = read_program(text)
        self.room()
        self.kept[name] = program, Run.own(program, min(program.starts), ())
        return str(program)

    def copy(self, name, other):
        self.room()
        self.kept[other] = self.kept[name]

    def drop(self, name):
        del self.kept[name]

    def go(self, name, index):
        program, run = self.kept[name]
        self.kept[name] = program, run + int(index)
        return len(run) + 1

    def back(self, name, many):
        program, run = self.kept[name]
        self.kept[name] = program, run.back(many=int(many))
        return len(run) - int(many)

    def cut(self, name, called, index, signal):
        program = self.kept[name][0].without_answers(((called, int(index), signal),))
        self.kept[name] = program, Run.own(program, min(program.starts), ())
        return len(program.answers)

    def text(self, name):
        return write_program(self.kept[name][0])

    def where(self, name):
        return self.kept[name][1].situation

    def ends(self, name):
        return outcome(self.kept[name][0])

    def depth(self, name):
        return deepest(self.kept[name][0])

    def idle(self, name):
        return Answers(self.kept[name][0]).idle

    def who(self, name, called, index):
        return answerers(self.kept[name][0], (called, int(index)))

    def new_ends(self, name, other):
        return new_ends(self.kept[name][0], self.kept[other][0])


class TestCommands(Checks):
    def test_by_hand(self):
        shell = Shell()
        self.assertEqual(shell.run(NEW), "program of 3 procedures, 2 modes, 1 signals")
        self.assertIsNone(shell("copy need more"))
        self.assertEqual([shell("go need 0"), shell("go need 0"), shell("go need 1")], [1, 2, 3])
        self.assertEqual(shell("where need"), (0, (), ("main", 2)))
        self.assertEqual(shell("where more"), (0, (), ("main", 0)))
        self.assertEqual([shell("back need 0"), shell("back need 2")], [3, 1])
        self.assertEqual(shell("text need"), write_program(NEED))
        self.assertEqual([shell("ends need"), shell("depth need"), shell("idle need")], [((0, 1), ()), 1, ()])
        self.assertEqual(shell("who need work 0"), ((0, ("main", 0)),))
        self.assertEqual(shell("cut more main 0 need"), 0)
        self.assertEqual(shell("new-ends need more"), (("unanswered", "need", 0),))
        self.assertEqual(shell("new-ends more need"), (("left", 0), ("left", 1)))
        self.assertEqual(shell("new-ends need need"), ())
        self.assertEqual([shell.names, len(shell), str(shell)], [("more", "need"), 2, "shell of 2 programs"])
        self.assertEqual(shell.programs, {"more": NEED.without_answers(NEED.answers), "need": NEED})
        self.assertIsNone(shell("drop more"))
        self.assertEqual(shell.names, ("need",))
        self.assertEqual(shell.script, (
            NEW, "copy need more", "go need 0", "go need 0", "go need 1", "back need 0", "back need 2",
            "cut more main 0 need", "drop more",
        ))

    def test_the_least_start(self):
        shell = Shell()
        shell("new again\n" + write_program(AGAIN.with_starts((1,))))
        self.assertEqual(shell("where again"), (1, (), ("main", 0)))
        shell("new both\n" + write_program(AGAIN))
        self.assertEqual(shell("where both"), (0, (), ("main", 0)))
        shell("go again 0")
        self.assertEqual(shell("cut again mid 0 ask"), 2)
        self.assertEqual(shell("where again"), (1, (), ("main", 0)))
        self.assertEqual(shell("idle again"), (("gone", 0, "ask"),))

    def test_a_copy_has_the_run_too(self):
        shell = Shell()
        shell(NEW)
        shell("go need 0")
        shell("copy need more")
        self.assertEqual([shell("where more"), shell("go more 0"), shell("where need")],
                         [shell("where need"), 2, (0, (("main", 0),), ("work", 0))])

    def test_no_commands(self):
        shell = Shell()
        for name in ("need", "more", "less"):
            shell(f"new {name}\n" + write_program(NEED))
        before = shell.script
        for each in (Shell(), shell):
            for value in NO_COMMANDS:
                for call in (each.run, each):
                    self.refuse(InvalidCommand, call, value)
        self.assertEqual(shell.script, before)

    def test_names_that_have_to_be_there(self):
        shell = Shell()
        shell(NEW)
        for command, name in (
            ("copy gone need", "gone"), ("copy gone more", "gone"), ("copy gone gone", "gone"), ("drop gone", "gone"),
            ("go gone 0", "gone"), ("go gone " + FORTY, "gone"), ("back gone 1", "gone"), ("cut gone main 0 need", "gone"),
            ("text gone", "gone"), ("where gone", "gone"), ("ends gone", "gone"), ("depth gone", "gone"),
            ("idle gone", "gone"), ("who gone work 0", "gone"), ("new-ends gone need", "gone"),
            ("new-ends need gone", "gone"), ("new-ends away gone", "away"), ("text new", "new"),
        ):
            self.assertEqual(self.refuse(UnknownName, shell, command).name, name)
        self.assertEqual(shell.script, (NEW,))

    def test_names_that_are_there(self):
        shell = Shell()
        shell(NEW)
        shell("copy need more")
        for command in (NEW, "new need\n", "new more\nmodes", "copy need more", "copy need need", "copy more need"):
            self.refuse(InvalidOperation, shell, command)
        self.assertEqual(shell.script, (NEW, "copy need more"))

    def test_texts_that_are_no_program(self):
        text = write_program(NEED)
        shell = Shell()
        for wrong, line in (
            ("", 0), ("\n" + text, 0), (text + "\n", text.count("\n") + 1), (text + "\n\n", text.count("\n") + 1),
            ("modes 2", 0), (text.replace("procedure work 2", "procedure  work 2"), 5), ("new need\n" + text, 0),
            (text.replace("\n", " \n", 1), 0), (text + "\n  leave 1 in", text.count("\n") + 1), ("text need", 0),
        ):
            self.assertEqual(self.refuse(ParseError, shell, "new need\n" + wrong).line, line)
        for wrong in (text.replace("modes 2", "modes 1"), text.replace("call 0 1 work", "call 0 1 gone"),
                      text.split("\n")[0], text.replace("on need fix 02", "on stop fix 02")):
            self.refuse(InvalidProgram, shell, "new need\n" + wrong)
        self.assertEqual([len(shell), shell.script], [0, ()])

    def test_numbers(self):
        shell = Shell()
        shell(NEW)
        for number in ("1", "7", "10", FORTY, "9" * 40):
            self.refuse(InvalidOperation, shell, "go need " + number)
            self.assertEqual(self.refuse(InvalidNumber, shell, "back need " + number).value, int(number))
            site = ("main", int(number))
            self.assertEqual(self.refuse(UnknownSite, shell, f"cut need main {number} need").site, site + ("need",))
            self.assertEqual(self.refuse(UnknownSite, shell, f"who need main {number}").site, site)
        self.assertEqual(self.refuse(UnknownSite, shell, "who need main 0").site, ("main", 0))
        self.assertEqual(self.refuse(UnknownSite, shell, "cut need main 0 stop").site, ("main", 0, "stop"))
        self.assertEqual(self.refuse(UnknownSite, shell, "cut need gone 0 need").site, ("gone", 0, "need"))
        self.assertEqual(self.refuse(UnknownSite, shell, "who need gone 0").site, ("gone", 0))
        self.assertEqual([shell("go need 0"), shell("back need 1"), shell("back need 0")], [1, 0, 0])

    def test_long_runs(self):
        shell = Shell()
        shell("new loop\nmodes 1 starts 0 signals\nprocedure p 1\n  go 0 0 by 00")
        for steps in range(1000):
            self.assertEqual(shell("go loop 0"), steps + 1)
        self.assertEqual(self.refuse(TooMany, shell, "go loop 0").limit, 1000)
        self.refuse(InvalidOperation, shell, "go loop 1")
        self.assertEqual(shell("back loop 1000"), 0)

    def test_many_tables_and_many_watched_contexts(self):
        shell = Shell()
        shell("new crowd\n" + write_program(set_out(9)))
        shell("new wheel\n" + write_program(ONE_MORE.with_procedure(Procedure("low", 1, ("raise", 0, 0, "aa", (0,))))))
        for command in ("ends crowd", "depth crowd", "idle crowd", "who crowd turnaa 1", "new-ends crowd wheel",
                        "new-ends wheel crowd"):
            self.assertEqual(self.refuse(TooMany, shell, command).limit, 200)
        for command in ("idle wheel", "who wheel low 0"):
            self.assertEqual(self.refuse(TooMany, shell, command).limit, 400)
        self.assertEqual([shell("depth wheel"), shell("ends wheel")], [0, ((), ())])

    def test_eight_programs_and_nine(self):
        shell = Shell()
        shell(NEW)
        for name in "abcdefg":
            shell(f"copy need {name}")
        self.assertEqual([len(shell), MAX_PROGRAMS], [8, 8])
        before = shell.script
        self.assertEqual(self.refuse(TooMany, shell, "copy need h").limit, 8)
        self.assertEqual(self.refuse(TooMany, shell, "new h\n" + write_program(PASS)).limit, 8)
        # It comes behind all other errors.
        self.refuse(InvalidOperation, shell, "copy need a")
        self.refuse(InvalidOperation, shell, NEW)
        self.refuse(UnknownName, shell, "copy gone h")
        self.assertEqual(self.refuse(ParseError, shell, "new h\n" + write_program(PASS) + "\n").line, 8)
        self.refuse(InvalidProgram, shell, "new h\nmodes 1 starts 0 signals")
        self.refuse(InvalidCommand, shell, "new h")
        self.assertEqual([shell.script, len(shell)], [before, 8])
        shell("drop a")
        self.assertEqual(shell("new h\n" + write_program(PASS)), str(PASS))
        self.assertEqual([len(shell), shell.names], [8, ("b", "c", "d", "e", "f", "g", "h", "need")])

    def test_errors_of_the_words_come_first(self):
        for command in ("go gone 00", "copy gone Need", "new-ends gone Gone", "cut gone main 0 Need", "new gone"):
            self.refuse(InvalidCommand, Shell(), command)


class TestRows(Checks):
    def command(self, draw, account):
        names = ["aa", "bb", "cc", "dd", "ee", "ff", "gg", "hh", "ii", "jj"]
        there = sorted(account.kept) or ["aa"]
        name = draw.choice(there) if draw.random() < 0.9 else draw.choice(names)
        other = draw.choice(names)
        first = draw.choice(["new", "new", "copy", "copy", "drop", "go", "go", "go", "go", "back", "cut", "text", "where",
                             "ends", "depth", "idle", "who", "new-ends"])
        program = account.kept[name][0] if name in account.kept else NEED
        number = draw.choice(("0", "0", "0", "1", "1", "2", "11", FORTY))
        text = write_program(draw.choice(lively(draw.randrange(50), 1, 3)))
        words = {
            "new": f"{other}\n" + (text if draw.random() < 0.8 else text + "\n  leave 9 in 0"), "copy": f"{name} {other}",
            "go": f"{name} {number}", "back": f"{name} {number}", "new-ends": f"{name} {draw.choice(there)}",
            "cut": " ".join([name, *map(str, draw.choice(program.answers or (("main", 0, "ask"),)))]),
            "who": " ".join([name, *map(str, draw.choice(program.raises or (("main", 0),)))]),
        }
        return first + " " + words.get(first, name)

    def test_rows_of_commands(self):
        told = {}
        for seed in range(20):
            draw, shell, account = random.Random(seed), Shell(), Account()
            for _ in range(80):
                command = self.command(draw, account)
                before = shell.programs, shell.script, [shell(f"where {name}") for name in shell.names]
                found = errors_of(draw.choice((shell, shell.run)), command)
                self.assertEqual(found, errors_of(account.run, command), command)
                first = command.split(" ")[0]
                told[(first, found[0])] = told.get((first, found[0]), 0) + 1
                if found[0] != "returned" or first not in DEEDS:
                    self.assertEqual((shell.programs, shell.script, [shell(f"where {each}") for each in shell.names]), before)
                self.check(shell, account)
            again = Shell.replayed(shell.script)
            self.assertEqual([again, again.script], [shell, shell.script])
        for first in DEEDS + ("text", "where", "ends", "depth", "idle", "who", "new-ends"):
            self.assertGreater(told[(first, "returned")], 10, first)
        for key in (("go", InvalidOperation), ("back", InvalidNumber), ("copy", InvalidOperation), ("new", InvalidOperation),
                    ("new", InvalidProgram), ("drop", UnknownName), ("copy", TooMany), ("cut", UnknownSite)):
            self.assertGreater(told[key], 2, key)

    def check(self, shell, account):
        self.assertEqual(shell.names, tuple(sorted(account.kept)))
        self.assertEqual(shell.programs, {name: program for name, (program, _) in account.kept.items()})
        self.assertEqual(list(shell.programs), sorted(account.kept))
        self.assertEqual(shell.script, tuple(account.script))
        self.assertEqual([len(shell), str(shell)], [len(account.kept), f"shell of {len(account.kept)} programs"])
        for name, (_, run) in account.kept.items():
            self.assertEqual(shell(f"where {name}"), run.situation)
            self.assertIn(name, shell)


class TestObjects(Checks):
    def test_equal(self):
        one, other = Shell(), Shell()
        self.assertEqual(one, other)
        one(NEW)
        self.assertNotEqual(one, other)
        other("new more\n" + write_program(NEED))
        self.assertNotEqual(one, other)
        other("copy more need")
        other("drop more")
        self.assertEqual(one, other)
        self.assertNotEqual(one.script, other.script)
        one("go need 0")
        self.assertNotEqual(one, other)
        other("go need 0")
        self.assertEqual(one, other)
        one("cut need main 0 need")
        self.assertNotEqual(one, other)
        odd = [value for value in ODD if not isinstance(value, Shell)]
        for value in odd + BOOLS + [0, (), "need", one.programs, one.script, str(one), NEED]:
            self.assertIs(one == value, False)
            self.assertIs(one != value, True)

    def test_equal_runs_count(self):
        one, other = Shell(), Shell()
        for each in (one, other):
            each("new two\n" + write_program(NEED))
            each("go two 0")
            each("go two 0")
        one("go two 0")
        other("go two 1")
        self.assertNotEqual(one, other)

    def test_contains(self):
        shell = Shell()
        shell(NEW)
        self.assertIs("need" in shell, True)
        for value in [each for each in ODD if each != "need"] + BOOLS + ["more", 0, ("need",), ["need"], {"need": 0}]:
            self.assertIs(value in shell, False)

    def test_replayed(self):
        shell = Shell.replayed((NEW, "copy need more", "go more 0", "cut need main 0 need"))
        self.assertEqual([shell.names, shell("where more")], [("more", "need"), (0, (("main", 0),), ("work", 0))])
        self.assertEqual(shell.script, (NEW, "copy need more", "go more 0", "cut need main 0 need"))
        self.assertEqual(Shell.replayed(()), Shell())
        for value in [each for each in ODD if not isinstance(each, tuple)] + BOOLS + [NEW, [NEW], {NEW: 0}, None, 0]:
            self.refuse(InvalidCommand, Shell.replayed, value)
        for value in NO_COMMANDS:
            self.refuse(InvalidCommand, Shell.replayed, (value,))
            self.refuse(InvalidCommand, Shell.replayed, (NEW, value))
            self.refuse(UnknownName, Shell.replayed, (NEW, "drop gone", value))
        self.refuse(InvalidOperation, Shell.replayed, (NEW, NEW))
        self.assertEqual(self.refuse(UnknownName, Shell.replayed, (NEW, "drop need", "go need 0")).name, "need")
        self.assertEqual(self.refuse(InvalidNumber, Shell.replayed, (NEW, "back need 1")).value, 1)

    def test_what_is_returned_gives_no_access(self):
        shell = Shell()
        shell(NEW)
        shell.programs["more"] = NEED
        del shell.programs["need"]
        self.assertEqual([shell.names, len(shell)], [("need",), 1])

    def test_not_iterated(self):
        shell = Shell()
        shell(NEW)
        for call in (iter, list, tuple):
            self.refuse(TypeError, call, shell)

    def test_strings(self):
        shell = Shell()
        self.assertEqual([str(shell), len(shell), shell.names, shell.programs, shell.script],
                         ["shell of 0 programs", 0, (), {}, ()])
        shell(NEW)
        self.assertEqual(str(shell), "shell of 1 programs")
        for program in (TWO, PASS, BARE):
            name = "".join(letter for letter in program.main if is_word(letter))
            self.assertEqual(shell(f"new {name}\n" + write_program(program)), str(program))


if __name__ == "__main__":
    unittest.main()
