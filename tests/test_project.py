"""Promise [15.1] and stage 15: a project."""

import random
import unittest

from answeredabove.ask.ends import outcome
from answeredabove.ask.nests import deepest
from answeredabove.ask.watch import Answers
from answeredabove.base.programs import Procedure, Program
from answeredabove.errors import (
    InvalidNumber, InvalidOperation, InvalidProgram, NothingToUndo, Refused, TooMany, UnknownName, UnknownSite,
)
from answeredabove.house.project import Project
from answeredabove.know.does import does
from tests.crowds import branching, pairing, set_out
from tests.helpers import BOOLS, FIX, MAIN, NEED, NO_PROGRAMS, ODD, PASS, WORK, Checks
from tests.samples import NAMES, lively
from tests.test_alike import MORE, OTHERWISE, all_tables
from tests.test_runs import NO_NAMES
from tests.test_watch import AGAIN, FOUR_HUNDRED, ONE_MORE

ANSWER = ("main", 0, "need")
QUIET_WORK = Procedure("work", 2, ("raise", 0, 1, "need", (0, 1)), ("leave", 1, (0, 1)))
LOUD = Procedure("fix", 1, ("raise", 0, 0, "need", (0,)), ("leave", 0, (0, 1)))
GONE = (("main", 0), ())
KEPT = [
    ("answered",), ("ends", (0, 1)), ("never", ("unanswered", "need", 1)), ("depth", 1), ("depth", 40),
    ("begins", ANSWER), ("alike", NEED, "work"), ("alike", OTHERWISE, "work"), ("never", ("left", 2)),
    ("never", ("left", 3)), ("never", ("unanswered", "need", 3)), ("never", ("unanswered", "gone", 0)),
    ("never", ("unanswered", "need", 0)),
]
BROKEN = [
    ("ends", (0,)), ("ends", ()), ("ends", (0, 1, 2)), ("ends", (0, 1, 2, 3)), ("never", ("left", 0)),
    ("never", ("left", 1)), ("depth", 0), ("begins", ("main", 1, "need")), ("begins", ("main", 11, "need")),
    ("begins", ("gone", 0, "need")), ("begins", ("main", 0, "ask")), ("begins", ("work", 0, "need")),
    ("alike", NEED.with_procedure(QUIET_WORK), "work"), ("alike", PASS, "work"), ("alike", NEED, "gone"),
    ("alike", PASS, "deep"), ("alike", Program(2, (0,), (), Procedure("work", 1)), "work"),
    ("alike", Program(3, (0,), ("need",), *NEED.procedures), "work"),
    ("alike", NEED.with_procedure(Procedure("more", 1)), "more"), ("alike", MORE, "p"),
]
NO_PROMISES = [(value,) for value in ODD + BOOLS] + [
    (), ("answered", 0), ("answered", ()), ("ends",), ("never",), ("depth",), ("begins",), ("alike",), ("alike", NEED),
    ("ends", (4,)), ("ends", (1, 0)), ("ends", (0, 0)), ("ends", [0]), ("ends", 0), ("ends", (False,)), ("ends", None),
    ("ends", (0, 1), 0), ("ends", 0, 1), ("never", ()), ("never", ("left",)), ("never", ("left", 4)),
    ("never", ("left", True)), ("never", ("left", -1)), ("never", ("right", 0)), ("never", "left", 0),
    ("never", ("unanswered", "need")), ("never", ("unanswered", "need", 4)), ("never", ("unanswered", "Need", 0)),
    ("never", ("unanswered", "needlessly", 0)), ("never", ("unanswered", "", 0)), ("never", ("unanswered", 0, "need")),
    ("never", ("unanswered", "need", 0, 0)), ("never", ["left", 0]), ("never", ("unanswered", "need", False)),
    ("depth", -1), ("depth", 41), ("depth", True), ("depth", "endless"), ("depth", (1,)), ("depth", 1, 1),
    ("depth", None), ("begins", ("main", 12, "need")), ("begins", ("main", -1, "need")), ("begins", ("main", 0)),
    ("begins", ("main", False, "need")), ("begins", ("Main", 0, "need")), ("begins", ("main", 0, "n33d")),
    ("begins", ("main", 0, "need", 0)), ("begins", ["main", 0, "need"]), ("begins", "main", 0, "need"),
    ("alike", "work", NEED), ("alike", NEED, "Work"), ("alike", NEED, ("work",)), ("alike", NEED, "work", 0),
    ("alike", WORK, "work"), ("alike", None, "work"), ("alike", NEED, None), ("Answered",), ("unanswered",),
    (("answered",),), ("left", 0), ("begin", ANSWER), ("end", (0,)), ("always", ("left", 0)), ("", 0), (0, 1),
]
# What stands in for the name of a new promise of a project that has one by the name "kept".
NO_NEW_NAMES = [value for value in ODD if value != "need"] + BOOLS + ["Kept", "", "kept", 0, None, ("new",), "promises9"]
NO_MANY = [value for value in ODD + BOOLS if type(value) is not int or value < 0] + ["1", (1,), None, [], -1]


def errors_of(call, *arguments, **keywords):
    """What a call returns, or the error that it raises, with what this keeps."""
    try:
        return "returned", call(*arguments, **keywords)
    except Exception as error:
        return type(error), vars(error)


def is_true(program, promise):
    """Whether a promise is true of a program, by the words of [15.1]."""
    kind, *terms = promise
    if kind == "begins":
        return terms[0] in program.answers and Answers(program)[terms[0]] != ()
    if kind == "depth":
        return deepest(program) != "endless" and deepest(program) <= terms[0]
    if kind == "alike":
        other, name = terms
        if name not in other.names or name not in program.names:
            return False
        if (other.modes, other.signals) != (program.modes, program.signals):
            return False
        return all(does(program, name, mode, table) == does(other, name, mode, table)
                   for table in all_tables(program) for mode in range(program.modes))
    left, unanswered = outcome(program)
    ends = [("left", mode) for mode in left] + [("unanswered", *each) for each in unanswered]
    return {"answered": unanswered == (), "ends": (left,) == tuple(terms), "never": terms[:1] not in [[end] for end in ends]}[kind]


class Account:
    """A plain account of what a project is."""

    def __init__(self, program):
        self.past, self.future, self.program, self.promises = [], [], program, {}

    def go_on(self, deed, program, promises):
        self.past.append((deed, self.program, self.promises))
        self.program, self.promises, self.future = program, promises, []

    def promise(self, name, *terms):
        if not is_true(self.program, terms):
            raise Refused(name)
        self.go_on("promise", self.program, {**self.promises, name: terms})

    def forget(self, name):
        if name not in self.promises:
            raise UnknownName(name)
        self.go_on("forget", self.program, {each: self.promises[each] for each in self.promises if each != name})

    def change(self, deed, program):
        for name in sorted(self.promises):
            if not is_true(program, self.promises[name]):
                raise Refused(name)
        self.go_on(deed, program, self.promises)

    def put(self, procedure):
        self.change("put", self.program.with_procedure(procedure))

    def drop(self, name):
        self.change("drop", self.program.without(name))

    def answer(self, site, answers):
        self.change("answer", self.program.with_answers(site, answers))

    def start(self, starts):
        self.change("start", self.program.with_starts(starts))

    def undo(self, many=1):
        return self.move(self.past, self.future, many)

    def redo(self, many=1):
        return self.move(self.future, self.past, many)

    def move(self, source, target, many):
        if many < 0:
            raise InvalidNumber(many)
        if many > len(source):
            raise NothingToUndo(many)
        for _ in range(many):
            deed, program, promises = source.pop()
            target.append((deed, self.program, self.promises))
            self.program, self.promises = program, promises
        return len(self.past)


class Rows(Checks):
    """Rows of calls, of a project and of its account."""

    def check(self, project, account):
        self.assertEqual(project.program, account.program)
        self.assertEqual(project.promises, account.promises)
        self.assertEqual(list(project.promises), sorted(account.promises))
        self.assertEqual(project.deeds, tuple(deed for deed, _, _ in account.past))
        self.assertEqual(len(project), len(account.promises))
        self.assertEqual(str(project), f"project of {len(account.program)} procedures, {len(account.promises)} promises")
        for name in account.promises:
            self.assertEqual(project[name], account.promises[name])
            self.assertIn(name, project)

    def same(self, project, account, word, arguments, keywords=None):
        keywords = keywords or {}
        before = project.program, project.promises, project.deeds
        found = errors_of(getattr(project, word), *arguments, **keywords)
        self.assertEqual(found, errors_of(getattr(account, word), *arguments, **keywords))
        if found[0] != "returned":
            self.assertEqual((project.program, project.promises, project.deeds), before)
        return found[0]

    def drawn(self, draw, program):
        """A call with arguments, most of them right."""
        names = [*program.names, "gone"]
        word = draw.choice(["put", "put", "answer", "answer", "start", "drop", "promise", "promise", "promise", "forget",
                            "undo", "redo"])
        if word in ("undo", "redo"):
            return word, (), {"many": draw.choice((0, 1, 1, 1, 2, 3, -1))}
        if word == "put":
            other = draw.choice(lively(draw.randrange(40), 1, 3))
            return word, (draw.choice((draw.choice(other.procedures), draw.choice(program.procedures))),), {}
        if word == "drop":
            return word, (draw.choice(names),), {}
        if word == "start":
            return word, (draw.choice(((0,), (1,), (0, 1), (), (2,))),), {}
        if word == "answer":
            site = draw.choice([*program.calls, ("gone", 0)])
            kept = program.move(site)[5] if site in program.calls else ()
            by = ((draw.choice(program.signals), draw.choice(names), ()),)
            return word, (site, draw.choice((by, kept[:1], ()))), {}
        name = draw.choice("abcdef")
        return (word, (name,), {}) if word == "forget" else (word, (name, *self.promise(draw, program)), {})

    def promise(self, draw, program):
        kind = draw.choice(("answered", "ends", "never", "depth", "begins", "alike"))
        left, unanswered = outcome(program)
        ends = [("left", 3), ("left", 0), ("unanswered", "gone", 0)] + [("unanswered", *each) for each in unanswered]
        answers = [("gone", 0, "ask"), *program.answers]
        return {
            "answered": ("answered",), "ends": ("ends", draw.choice((left, left, (0,), ()))),
            "never": ("never", draw.choice(ends)), "depth": ("depth", draw.choice((0, 1, 5))),
            "begins": ("begins", draw.choice(answers)), "alike": ("alike", program, draw.choice(program.names)),
        }[kind]

    def test_rows_of_calls(self):
        told = {}
        for seed in range(45):
            draw = random.Random(seed)
            program = lively(seed, 1, 3, 2, 1)[0]
            project, account = Project(program), Account(program)
            for _ in range(40):
                word, arguments, keywords = self.drawn(draw, project.program)
                if word == "promise" and arguments[0] in project:
                    self.refuse(InvalidOperation, project.promise, *arguments)
                    continue
                result = self.same(project, account, word, arguments, keywords)
                told[(word, result)] = told.get((word, result), 0) + 1
                self.check(project, account)
        for word in ("put", "drop", "answer", "start", "promise", "forget", "undo", "redo"):
            self.assertGreater(told[(word, "returned")], 5, word)
        for word in ("put", "answer", "start", "promise"):
            self.assertGreater(told[(word, Refused)], 2, word)
        for word, error in (("undo", NothingToUndo), ("redo", NothingToUndo), ("undo", InvalidNumber),
                            ("drop", UnknownName), ("forget", UnknownName), ("answer", UnknownSite)):
            self.assertGreater(told[(word, error)], 2, word)

    def test_trials_in_rows_of_calls(self):
        for seed in range(12):
            draw = random.Random(1000 + seed)
            program = lively(seed, 1, 3, 2, 1)[0]
            project, account = Project(program), Account(program)
            for _ in range(12):
                self.one_more(draw, project, account)
                account.future = list(account.future)
                with project.trial() as same:
                    self.assertIs(same, project)
                    inner = Account(program)
                    inner.past, inner.future = list(account.past), list(account.future)
                    inner.program, inner.promises = account.program, account.promises
                    for _ in range(4):
                        self.one_more(draw, project, inner)
                self.check(project, account)
                self.assertEqual(project.twin(), project)

    def one_more(self, draw, project, account):
        word, arguments, keywords = self.drawn(draw, project.program)
        if word != "promise" or arguments[0] not in project:
            self.same(project, account, word, arguments, keywords)
            self.check(project, account)


class TestPromises(Checks):
    def test_kept_and_not_kept(self):
        for at, promise in enumerate(KEPT):
            self.assertIs(is_true(NEED, promise), True, promise)
            project = Project(NEED)
            self.assertIsNone(project.promise("kept", *promise))
            self.assertEqual([project["kept"], project.promises, project.deeds], [promise, {"kept": promise}, ("promise",)])
        for promise in BROKEN:
            if promise[0] != "alike":
                self.assertIs(is_true(NEED, promise), False, promise)
            project = Project(NEED)
            self.assertEqual(self.refuse(Refused, project.promise, "broken", *promise).name, "broken")
            self.assertEqual([project.promises, project.deeds, len(project)], [{}, (), 0])
        self.assertEqual(self.refuse(Refused, Project(PASS).promise, "p", "depth", 40).name, "p")
        self.assertEqual(self.refuse(Refused, Project(PASS).promise, "p", "answered").name, "p")

    def test_no_promises(self):
        project = Project(NEED)
        for value in NO_PROMISES:
            self.refuse(InvalidOperation, project.promise, "new", *value)
        for value in KEPT:
            self.refuse(InvalidOperation, project.promise, "new", value)
            self.refuse(InvalidOperation, project.promise, "new", *value, None)
            self.refuse(InvalidOperation, project.promise, "new", *value[:-1])
        self.assertEqual(project, Project(NEED))

    def test_no_new_names(self):
        project = Project(NEED)
        project.promise("kept", "answered")
        for name in NO_NEW_NAMES:
            for terms in (("answered",), ("ends", ()), (), (None,)):
                self.refuse(InvalidOperation, project.promise, name, *terms)
        self.assertEqual(project.deeds, ("promise",))

    def test_errors_that_come_of_deciding(self):
        for made in (set_out(9), branching("")):
            project = Project(made)
            for terms in (("answered",), ("ends", ()), ("never", ("left", 0)), ("never", ("unanswered", "gone", 3)),
                          ("depth", 0), ("begins", made.answers[0]), ("never", ("left", 3))):
                self.assertEqual(self.refuse(TooMany, project.promise, "new", *terms).limit, 200)
            self.refuse(Refused, project.promise, "new", "begins", ("main", 11, "aa"))
            self.refuse(Refused, project.promise, "new", "alike", NEED, made.main)
            self.refuse(Refused, project.promise, "new", "alike", made, "gone")
            self.assertEqual(self.refuse(TooMany, project.promise, "new", "alike", made, made.main).limit, 4096)
            self.assertEqual(project.deeds, ())
        self.assertEqual(self.refuse(TooMany, Project(ONE_MORE).promise, "new", "begins", ONE_MORE.answers[0]).limit, 400)
        self.refuse(Refused, Project(FOUR_HUNDRED).promise, "new", "begins", FOUR_HUNDRED.answers[0])
        Project(ONE_MORE).promise("new", "depth", 0)
        crowded = pairing(8)
        self.assertEqual(self.refuse(TooMany, Project(crowded).promise, "new", "alike", crowded, "p").limit, 200)
        Project(crowded).promise("new", "alike", pairing(5), "hs")

    def test_errors_that_come_of_deciding_stand_where_the_names_do(self):
        whole, few = pairing(8), pairing(3)["p"]
        moves = whole["p"].moves
        # With this one there are many tables, and the first answer is not there.
        other = Procedure("p", 2, moves[-1], *moves[:-1])
        for begun, error in (("aa", Refused), ("zz", TooMany)):
            project = Project(whole.with_procedure(few))
            project.promise("mm", "never", ("unanswered", "gone", 0))
            project.promise(begun, "begins", ("p", 0, "a"))
            self.refuse(error, project.put, other)
            self.assertEqual(self.refuse(TooMany, project.put, whole["p"]).limit, 200)
            self.assertEqual([project.program["p"], len(project.deeds)], [few, 2])
            project.forget("mm")
            self.refuse(Refused, project.put, other)
            project.forget(begun)
            project.put(other)

    def test_ascending_by_names(self):
        project = Project(NEED)
        for name, terms in (("mm", ("answered",)), ("zz", ("begins", ANSWER)), ("bb", ("ends", (0, 1))),
                            ("aa", ("never", ("left", 3)))):
            project.promise(name, *terms)
        self.assertEqual(list(project.promises), ["aa", "bb", "mm", "zz"])
        self.assertEqual(self.refuse(Refused, project.answer, *GONE).name, "bb")
        project.forget("bb")
        self.assertEqual(self.refuse(Refused, project.answer, *GONE).name, "mm")
        project.forget("mm")
        self.assertEqual(self.refuse(Refused, project.answer, *GONE).name, "zz")
        project.forget("zz")
        project.answer(*GONE)
        self.assertEqual(project.program, NEED.with_answers(*GONE))
        self.assertEqual(project.deeds, ("promise",) * 4 + ("forget",) * 3 + ("answer",))


class TestChanges(Checks):
    def test_a_program_that_changes(self):
        project = Project(NEED)
        self.assertIsNone(project.put(QUIET_WORK))
        self.assertEqual(project.program, NEED.with_procedure(QUIET_WORK))
        self.assertIsNone(project.start((0, 1)))
        self.assertIsNone(project.answer(("main", 0), (("need", "fix", ()),)))
        self.assertIsNone(project.put(Procedure("more", 1)))
        self.assertEqual(project.program.names, ("main", "work", "fix", "more"))
        self.assertIsNone(project.drop("more"))
        self.assertEqual(project.deeds, ("put", "start", "answer", "put", "drop"))
        self.assertEqual(project.program, Program(
            2, (0, 1), ("need",), Procedure("main", 3, ("call", 0, 1, "work", (0,), (("need", "fix", ()),)), *MAIN.moves[1:]),
            QUIET_WORK, FIX,
        ))

    def test_errors_of_the_program(self):
        project = Project(NEED)
        project.promise("kept", "answered")
        for value in ODD + BOOLS + [None, NEED, Procedure("work", 1, ("raise", 0, 0, "stop", (0,)))]:
            self.refuse(InvalidOperation, project.put, value)
        self.check_order(Project(NEED.with_procedure(Procedure("main", 1))).drop, ("fix", UnknownName, "name", NO_NAMES))
        for name in NO_NAMES:
            self.assertIs(self.refuse(UnknownName, project.drop, name).name, name)
        for name in ("work", "fix"):
            self.refuse(InvalidOperation, project.drop, name)
        for site in (("main", 1), ("gone", 0), None, [], ("main", False)):
            for answers in ((), None):
                self.assertIs(self.refuse(UnknownSite, project.answer, site, answers).site, site)
        for answers in (None, [], (("stop", "fix", ()),), (("need", "gone", ()),), (("need", "fix", ((0, 3),)),)):
            self.refuse(InvalidOperation, project.answer, ("main", 0), answers)
        for starts in ODD + BOOLS + [(), (2,), (1, 0), 0]:
            if starts != (0,):
                self.refuse(InvalidOperation, project.start, starts)
        self.assertEqual(project.deeds, ("promise",))
        # The program's error comes ahead of a promise that would not be kept.
        self.refuse(InvalidOperation, project.put, Procedure("work", 1, ("raise", 0, 0, "stop", (0,))))

    def test_refused(self):
        project = Project(NEED)
        project.promise("kept", "never", ("unanswered", "need", 0))
        for call, arguments in ((project.put, (LOUD,)), (project.answer, GONE)):
            self.assertEqual(self.refuse(Refused, call, *arguments).name, "kept")
        self.assertEqual([project.program, project.deeds], [NEED, ("promise",)])
        project.start((1,))
        project.put(LOUD)
        self.assertEqual(self.refuse(Refused, project.start, (0,)).name, "kept")

    def test_promises_of_something_that_goes(self):
        project = Project(AGAIN)
        project.promise("begun", "begins", ("mid", 0, "ask"))
        project.promise("same", "alike", AGAIN, "ok")
        self.assertEqual(self.refuse(Refused, project.answer, ("mid", 0), ()).name, "begun")
        project.forget("begun")
        project.answer(("mid", 0), ())
        project.answer(("main", 0), ())
        project.drop("by")
        project.drop("gone")
        self.assertEqual(self.refuse(Refused, project.drop, "ok").name, "same")

    def test_forget(self):
        project = Project(NEED)
        project.promise("kept", "answered")
        for name in ODD + BOOLS + ["gone", "answered", "promise", 0, None, ("kept",), ["kept"]]:
            self.assertIs(self.refuse(UnknownName, project.forget, name).name, name)
            self.assertIs(self.refuse(UnknownName, project.__getitem__, name).name, name)
            self.assertIs(name in project, False)
        self.assertIn("kept", project)
        self.assertIsNone(project.forget("kept"))
        self.assertNotIn("kept", project)
        self.assertEqual(self.refuse(UnknownName, project.forget, "kept").name, "kept")
        project.promise("kept", "depth", 1)
        self.assertEqual(project["kept"], ("depth", 1))


class TestUndo(Checks):
    def made(self):
        project = Project(NEED)
        project.promise("kept", "answered")
        project.put(QUIET_WORK)
        project.start((0, 1))
        project.forget("kept")
        return project

    def test_by_none_by_one_by_all_and_by_more(self):
        project = self.made()
        self.assertEqual([project.undo(many=0), len(project.deeds)], [4, 4])
        self.assertEqual([project.undo(), project.undo(many=1)], [3, 2])
        self.assertEqual([project.deeds, project.promises], [("promise", "put"), {"kept": ("answered",)}])
        self.assertEqual(self.refuse(NothingToUndo, project.undo, many=3).many, 3)
        self.assertEqual(project.undo(many=2), 0)
        self.assertEqual([project, project.deeds], [Project(NEED), ()])
        self.assertEqual(self.refuse(NothingToUndo, project.undo).many, 1)
        self.assertEqual(project.undo(many=0), 0)
        self.assertEqual(self.refuse(NothingToUndo, project.redo, many=5).many, 5)
        self.assertEqual([project.redo(many=0), project.redo(), project.redo(many=3)], [0, 1, 4])
        self.assertEqual([project, project.deeds], [self.made(), self.made().deeds])
        self.assertEqual(self.refuse(NothingToUndo, project.redo).many, 1)
        self.assertEqual(self.refuse(NothingToUndo, project.redo, many=10 ** 39).many, 10 ** 39)

    def test_a_new_call_ends_redoing(self):
        project = self.made()
        project.undo(many=2)
        self.assertEqual(self.refuse(Refused, project.answer, *GONE).name, "kept")
        self.refuse(InvalidOperation, project.start, ())
        self.refuse(UnknownName, project.forget, "gone")
        self.refuse(Refused, project.promise, "new", "depth", 0)
        self.refuse(InvalidOperation, project.promise, "kept", "depth", 1)
        # What is refused does not end it.
        self.assertEqual([project.redo(), project.undo()], [3, 2])
        project.put(Procedure("more", 1))
        self.assertEqual(self.refuse(NothingToUndo, project.redo).many, 1)
        self.assertEqual(project.deeds, ("promise", "put", "put"))
        self.assertEqual(project.undo(many=3), 0)
        self.assertEqual(project.redo(many=3), 3)

    def test_wrong_numbers(self):
        project = self.made()
        for value in NO_MANY:
            for call in (project.undo, project.redo):
                self.assertIs(self.refuse(InvalidNumber, call, many=value).value, value)
        self.refuse(TypeError, project.undo, 1)
        self.assertEqual(project.deeds, self.made().deeds)


class TestTrials(Checks):
    def test_as_before(self):
        project = Project(NEED)
        project.promise("kept", "answered")
        project.put(QUIET_WORK)
        project.undo()
        before = [project.twin(), project.deeds]
        with project.trial() as same:
            self.assertIs(same, project)
            same.forget("kept")
            same.answer(*GONE)
            same.undo()
            self.assertEqual(same.deeds, ("promise", "forget"))
        self.assertEqual([project, project.deeds], before)
        self.assertEqual(project.redo(), 2)
        self.assertEqual(project.program, NEED.with_procedure(QUIET_WORK))

    def test_an_error_goes_on(self):
        project = Project(NEED)
        project.promise("kept", "answered")
        for error, call in ((Refused, lambda: project.put(LOUD)), (ZeroDivisionError, lambda: 1 // 0),
                            (NothingToUndo, lambda: project.undo(many=9))):
            with self.assertRaises(error):
                with project.trial():
                    project.start((0, 1))
                    call()
            self.assertEqual([project.program, project.deeds], [NEED, ("promise",)])

    def test_a_trial_within_a_trial(self):
        project = Project(NEED)
        with project.trial():
            project.start((0, 1))
            with project.trial() as same:
                same.start((1,))
                with self.assertRaises(Refused):
                    with same.trial():
                        same.put(LOUD)
                        same.promise("new", "ends", (0,))
                self.assertEqual([project.program.starts, project.deeds], [(1,), ("start", "start")])
            self.assertEqual([project.program.starts, project.deeds], [(0, 1), ("start",)])
        self.assertEqual([project, project.deeds], [Project(NEED), ()])

    def test_one_trial_several_times(self):
        project = Project(NEED)
        trial = project.trial()
        project.start((0, 1))
        for _ in range(2):
            with trial:
                project.start((1,))
                with trial:
                    project.put(LOUD)
                self.assertEqual(project.program, NEED.with_starts((1,)))
            self.assertEqual([project.program, project.deeds], [NEED.with_starts((0, 1)), ("start",)])

    def test_during(self):
        project = Project(NEED)
        project.promise("kept", "answered")
        self.assertEqual(project.during(lambda same: (same is project, same.start((1,)), same.program.starts)),
                         (True, None, (1,)))
        self.assertEqual(project.during(lambda same: same.deeds), ("promise",))
        self.assertIsNone(project.during(lambda same: same.forget("kept")))
        self.refuse(Refused, project.during, lambda same: same.put(LOUD))
        self.refuse(ZeroDivisionError, project.during, lambda same: same.undo() // 0)
        self.assertEqual([project.program, project.promises, project.deeds], [NEED, {"kept": ("answered",)}, ("promise",)])

    def test_a_twin_is_independent(self):
        project = Project(NEED)
        project.promise("kept", "answered")
        project.start((0, 1))
        project.undo()
        twin = project.twin()
        self.assertEqual([twin, twin.deeds], [project, ("promise",)])
        self.assertEqual(twin.redo(), 2)
        self.assertEqual([project.deeds, project.program], [("promise",), NEED])
        self.assertNotEqual(project, twin)
        project.forget("kept")
        self.assertEqual(twin["kept"], ("answered",))
        self.assertEqual(twin.undo(many=2), 0)
        self.assertEqual(project.undo(), 1)
        self.assertEqual([project["kept"], len(twin)], [("answered",), 0])


class TestObjects(Checks):
    def test_equal(self):
        one, other = Project(NEED), Project(NEED)
        one.start((1,))
        one.undo()
        self.assertEqual(one, other)
        for name in ("aa", "bb"):
            one.promise(name, "answered")
        for name in ("bb", "aa"):
            other.promise(name, "answered")
        self.assertEqual(one, other)
        self.assertEqual(list(other.promises), ["aa", "bb"])
        other.forget("aa")
        self.assertNotEqual(one, other)
        odd = [value for value in ODD if not isinstance(value, Project)]
        for value in odd + BOOLS + [NEED, Project(PASS), (), 0, str(Project(NEED))]:
            self.assertIs(Project(NEED) == value, False)
            self.assertIs(Project(NEED) != value, True)
            self.assertIs(value in Project(NEED), False)

    def test_strings_and_numbers(self):
        project = Project(NEED)
        self.assertEqual([str(project), len(project)], ["project of 3 procedures, 0 promises", 0])
        project.promise("kept", "answered")
        self.assertEqual([str(project), len(project)], ["project of 3 procedures, 1 promises", 1])
        self.assertEqual(str(Project(Program(1, (0,), (), Procedure("p", 1)))), "project of 1 procedures, 0 promises")

    def test_what_is_returned_gives_no_access(self):
        project = Project(NEED)
        project.promise("kept", "answered")
        project.promises["more"] = ("depth", 1)
        del project.promises["kept"]
        self.assertEqual([project.promises, len(project)], [{"kept": ("answered",)}, 1])

    def test_not_iterated(self):
        for call in (iter, list, tuple):
            self.refuse(TypeError, call, Project(NEED))

    def test_no_program(self):
        for value in NO_PROGRAMS:
            self.refuse(InvalidProgram, Project, value)


if __name__ == "__main__":
    unittest.main()
