"""Stage 14: editions."""

import unittest

from answeredabove.ask.ends import can_end
from answeredabove.base.programs import Procedure, Program
from answeredabove.errors import InvalidOperation, InvalidProgram, TooMany, UnknownName
from answeredabove.same.editions import changes, new_ends, replaced
from tests.crowds import branching, set_out
from tests.helpers import FIX, NEED, NO_PROGRAMS, PASS, Checks
from tests.samples import lively, programs
from tests.test_ends import TWO, ends
from tests.test_runs import NO_NAMES
from tests.test_situations import NEST
from tests.test_watch import AGAIN, BARE, BOTH

BARE_NEED = NEED.without_answers(NEED.answers)
QUIET_WORK = Procedure("work", 2, ("raise", 0, 1, "need", (0, 1)), ("leave", 1, (0, 1)))
QUIET = NEED.with_procedure(QUIET_WORK)


class TestNewEnds(Checks):
    def test_by_hand(self):
        self.assertEqual(new_ends(NEED, BARE_NEED), (("unanswered", "need", 0),))
        self.assertEqual(new_ends(BARE_NEED, NEED), (("left", 0), ("left", 1)))
        self.assertEqual(new_ends(NEED, NEED), ())
        self.assertEqual(new_ends(BARE, NEED), (("left", 0),))
        self.assertEqual(new_ends(NEED, PASS), (("unanswered", "ask", 0),))
        both = PASS.with_procedure(Procedure("deep", 2, ("raise", 0, 1, "ask", (0,)), ("leave", 0, (0,))))
        self.assertEqual(new_ends(BARE_NEED, both), (("left", 0), ("unanswered", "ask", 0)))

    def test_by_the_words(self):
        found = 0
        samples = [NEED, PASS, NEST, TWO, AGAIN, BOTH, BARE, *programs(111, 25), *lively(112, 25)]
        for one in samples:
            for other in samples[::4]:
                told = new_ends(one, other)
                found += len(told)
                mine = ends(one)
                self.assertEqual(told, tuple(sorted(
                    end for end in ends(other) if can_end(other, end) and (end not in mine or not can_end(one, end)))))
        self.assertGreater(found, 100)

    def test_many_tables(self):
        for made in (set_out(9), branching("")):
            self.assertEqual(self.refuse(TooMany, new_ends, made, NEED).limit, 200)
            self.assertEqual(self.refuse(TooMany, new_ends, NEED, made).limit, 200)
            self.refuse(InvalidProgram, new_ends, made, None)

    def test_errors_in_their_order(self):
        self.check_order(new_ends, (NEED, InvalidProgram, None, NO_PROGRAMS), (PASS, InvalidProgram, None, NO_PROGRAMS))


class TestReplaced(Checks):
    def test_by_hand(self):
        self.assertEqual(replaced(NEED, QUIET, "work"), QUIET)
        self.assertEqual(replaced(QUIET, NEED, "work"), NEED)
        self.assertEqual(replaced(NEED, BARE_NEED, "main"), BARE_NEED)
        self.assertEqual(replaced(NEED, QUIET, "fix"), NEED)
        self.assertEqual(replaced(NEED, QUIET, "work").names, ("main", "work", "fix"))

    def test_no_program(self):
        other = Program(4, (3,), ("need", "stop"), Procedure("work", 1, ("leave", 0, (2,))), FIX,
                        Procedure("main", 1, ("call", 0, 0, "gone", (0,), ())), Procedure("gone", 1))
        for name in ("work", "main"):
            self.refuse(InvalidOperation, replaced, NEED, other, name)
        self.assertEqual(replaced(NEED, other, "fix"), NEED)
        wide = Procedure("work", 1, ("raise", 0, 0, "stop", (0,)))
        self.refuse(InvalidOperation, replaced, NEED, other.with_procedure(wide), "work")
        # More modes, signals and procedures make no difference as long as the result is a program.
        narrow = Procedure("work", 1, ("raise", 0, 0, "need", (0,)))
        self.assertEqual(replaced(NEED, other.with_procedure(narrow), "work"), NEED.with_procedure(narrow))

    def test_errors_in_their_order(self):
        rows = (NEED, InvalidProgram, None, NO_PROGRAMS), (QUIET, InvalidProgram, None, NO_PROGRAMS)
        self.check_order(replaced, *rows, ("work", UnknownName, "name", NO_NAMES))
        more = NEED.with_procedure(Procedure("more", 1))
        for one, other in ((NEED, more), (more, NEED)):
            self.assertEqual(self.refuse(UnknownName, replaced, one, other, "more").name, "more")


class TestChanges(Checks):
    def test_by_hand(self):
        more = QUIET.with_procedure(Procedure("zz", 1)).with_procedure(Procedure("aa", 1))
        self.assertEqual(changes(NEED, QUIET), ("work",))
        self.assertEqual(changes(NEED, more), ("work", "zz", "aa"))
        self.assertEqual(changes(more, NEED), ("work", "zz", "aa"))
        self.assertEqual(changes(NEED, NEED), ())
        self.assertEqual(changes(NEED, NEED.with_starts((0, 1))), ())
        self.assertEqual(changes(NEED, PASS), ("main", "work", "fix", "deep", "pass"))
        self.assertEqual(changes(NEED, BARE_NEED), ("main",))
        self.assertEqual(changes(NEED, NEED.renamed({"fix": "mend"})), ("main", "fix", "mend"))
        back = Program(2, (0,), ("need",), *NEED.procedures[::-1])
        self.assertEqual([changes(NEED, back), changes(back, NEED)], [(), ()])
        self.assertEqual(changes(Program(4, (3,), (), Procedure("p", 1)), Program(1, (0,), ("s",), Procedure("p", 1))), ())

    def test_by_the_words(self):
        samples = [NEED, PASS, QUIET, *programs(113, 20), *lively(114, 20)]
        for one in samples:
            for other in samples:
                told = [name for name in one.names if name not in other or one[name] != other[name]]
                self.assertEqual(changes(one, other), (*told, *[name for name in other.names if name not in one]))

    def test_errors_in_their_order(self):
        self.check_order(changes, (NEED, InvalidProgram, None, NO_PROGRAMS), (PASS, InvalidProgram, None, NO_PROGRAMS))


if __name__ == "__main__":
    unittest.main()
