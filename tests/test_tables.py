"""Promise [0.13] and stage 5: tables."""

import unittest

from answeredabove.base.programs import Procedure, Program
from answeredabove.errors import InvalidMode, InvalidOperation, InvalidProgram, InvalidTable, UnknownName
from answeredabove.know.tables import empty_table, entry, full_table, is_table, is_within, joined, with_entry
from tests.helpers import BOOLS, FIX, FULL, NEED, NO_PROGRAMS, ODD, PASS, Checks, spoiled
from tests.samples import programs, tables

NONE = Program(3, (0,), (), Procedure("p", 1))
EMPTY = ((), ())
# None of these is a table of NEED, the entries of which are two.
NO_TABLES = [value for value in ODD + BOOLS] + [
    (), ((),), ((), (), ()), ((0,),), ((2,), ()), ((), (0, 2)), ((1, 0), ()), ((0, 0), ()), ((), (0, True)), [(), ()],
    ((), []), ([0], ()), (0, 1), ((0,), 1), ((), None), ((), "0"), ((), ((0,),)), {0: (), 1: ()}, (FIX, ()), 0, "()",
    ((False,), ()), ((), (-1,)),
]
NO_SIGNALS = ODD + BOOLS + ["work", "ask", "main", 0, 1, (), ("need",), ["need"], FIX]
NO_MODES = ODD + BOOLS + [2, "0", (0,), (), [0], FIX]


class TestForm(Checks):
    def test_the_examples(self):
        self.assertEqual([empty_table(NEED), full_table(NEED)], [((), ()), ((0, 1), (0, 1))])
        self.assertEqual([is_table(NEED, ((0,),)), entry(NEED, ((), (0, 1)), "need", 1)], [False, (0, 1)])
        self.assertEqual(empty_table(PASS), ((),))

    def test_all_tables_of_two_modes(self):
        entries = ((), (0,), (1,), (0, 1))
        for one in entries:
            for other in entries:
                self.assertIs(is_table(NEED, (one, other)), True)

    def test_no_tables(self):
        for value in NO_TABLES:
            self.assertIs(is_table(NEED, value), False, value)

    def test_no_signals(self):
        self.assertEqual([empty_table(NONE), full_table(NONE)], [(), ()])
        for value in ODD + BOOLS + [((),), 0, [], "", None]:
            self.assertIs(is_table(NONE, value), False)
        self.assertIs(is_table(NONE, ()), True)

    def test_one_and_four_modes(self):
        self.assertEqual(full_table(PASS), ((0,),))
        self.assertEqual(full_table(FULL), ((0, 1, 2, 3),) * 12)
        self.assertEqual(empty_table(FULL), ((),) * 12)
        self.assertIs(is_table(FULL, ((0, 3), (), (0, 1, 2, 3)) * 4), True)
        self.assertIs(is_table(FULL, ((0, 3), (), (0, 1, 2, 4)) * 4), False)
        self.assertIs(is_table(FULL, ((),) * 11), False)

    def test_each_part_of_a_wrong_kind(self):
        for value in spoiled(((0, 1), (), (2,)) * 4):
            self.assertIs(is_table(FULL, value), False, value)

    def test_no_program(self):
        for value in NO_PROGRAMS:
            for call in (empty_table, full_table):
                self.refuse(InvalidProgram, call, value)
            for table in (EMPTY, None):
                self.refuse(InvalidProgram, is_table, value, table)

    def test_samples(self):
        for made in programs(3, 50, modes=4, signals=3):
            for table in [empty_table(made), full_table(made), *tables(1, made, 5)]:
                self.assertIs(is_table(made, table), True)
                self.assertEqual(len(table), len(made.signals) * made.modes)


class TestEntries(Checks):
    def test_signal_after_signal_and_mode_after_mode(self):
        table = tuple((at % 4,) for at in range(12))[::-1]
        for row, signal in enumerate(FULL.signals):
            for mode in range(4):
                self.assertEqual(entry(FULL, table, signal, mode), table[row * 4 + mode])
                changed = with_entry(FULL, table, signal, mode, (0, 3))
                self.assertEqual(entry(FULL, changed, signal, mode), (0, 3))
                at = row * 4 + mode
                self.assertEqual(changed, table[:at] + ((0, 3),) + table[at + 1:])

    def test_the_examples(self):
        self.assertEqual(with_entry(NEED, EMPTY, "need", 0, (1,)), ((1,), ()))

    def test_no_modes_and_all_modes(self):
        self.assertEqual(with_entry(NEED, ((0, 1), (0, 1)), "need", 1, ()), ((0, 1), ()))
        self.assertEqual(with_entry(NEED, EMPTY, "need", 1, (0, 1)), ((), (0, 1)))
        self.assertEqual(with_entry(NEED, ((1,), ()), "need", 0, (1,)), ((1,), ()))

    def test_errors_in_their_order(self):
        rows = [
            (NEED, InvalidProgram, None, NO_PROGRAMS), (EMPTY, InvalidTable, None, NO_TABLES),
            ("need", UnknownName, "name", NO_SIGNALS), (1, InvalidMode, None, NO_MODES),
        ]
        self.check_order(entry, *rows)
        wrong = [value for value in ODD + BOOLS] + [
            (2,), (0, 2), (1, 0), (0, 0), [], [0], 0, "0", (0, True), (-1,), {0: 0}, ((0,),), FIX, "()",
        ]
        self.check_order(with_entry, *rows, ((0,), InvalidOperation, None, wrong))


class TestWithinAndJoined(Checks):
    def test_the_examples(self):
        self.assertIs(is_within(NEED, ((), (1,)), ((0,), (0, 1))), True)
        self.assertEqual(joined(NEED, ((0,), ()), ((1,), ())), ((0, 1), ()))

    def test_each_entry_counts(self):
        self.assertIs(is_within(NEED, ((0,), (1,)), ((0, 1), ())), False)
        self.assertIs(is_within(NEED, ((1,), ()), ((0,), (0, 1))), False)
        self.assertIs(is_within(NEED, ((0, 1), ()), ((1,), ())), False)
        self.assertEqual(joined(NEED, ((1,), (0,)), ((0,), (0, 1))), ((0, 1), (0, 1)))

    def test_no_signals(self):
        self.assertIs(is_within(NONE, (), ()), True)
        self.assertEqual(joined(NONE, (), ()), ())

    def test_samples(self):
        for made in programs(4, 40, modes=4, signals=3):
            found = [empty_table(made), full_table(made), *tables(2, made, 6)]
            for one in found:
                self.assertIs(is_within(made, found[0], one) and is_within(made, one, found[1]), True)
                for other in found:
                    within = all(set(inside) <= set(around) for inside, around in zip(one, other))
                    self.assertIs(is_within(made, one, other), within)
                    both = joined(made, one, other)
                    self.assertIs(is_table(made, both), True)
                    self.assertEqual([set(each) for each in both], [set(a) | set(b) for a, b in zip(one, other)])

    def test_errors_in_their_order(self):
        for call in (is_within, joined):
            self.check_order(
                call, (NEED, InvalidProgram, None, NO_PROGRAMS), (EMPTY, InvalidTable, None, NO_TABLES),
                (((0,), (1,)), InvalidTable, None, NO_TABLES),
            )


if __name__ == "__main__":
    unittest.main()
