"""Tables: in which modes each signal, raised in each mode, can be resumed from outside."""

from answeredabove.base.checks import check_mode, check_name, check_program, check_signal
from answeredabove.base.words import is_below, is_mode_set, is_tuple
from answeredabove.errors import InvalidOperation, InvalidTable


def is_table(program, value):
    """Whether the value is a table of the program."""
    check_program(program)
    if not is_tuple(value, _many_entries(program)):
        return False
    return all([_is_entry(each, program.modes) for each in value])


def empty_table(program):
    """The table with which nothing is resumed from outside."""
    check_program(program)
    return ((),) * _many_entries(program)


def full_table(program):
    """The table with which everything is resumed from outside, in every mode."""
    check_program(program)
    return (tuple(range(program.modes)),) * _many_entries(program)


def entry(program, table, signal, mode):
    """The entry of the table for the signal and the mode."""
    _check_place(program, table, signal, mode)
    return table[place_of(program, signal, mode)]


def with_entry(program, table, signal, mode, modes):
    """The table with these modes as its entry for the signal and the mode."""
    _check_place(program, table, signal, mode)
    if not _is_entry(modes, program.modes):
        raise InvalidOperation("these modes are no entry of a table of the program")
    at = place_of(program, signal, mode)
    return table[:at] + (modes,) + table[at + 1:]


def is_within(program, one, other):
    """Whether each entry of one table has only modes that the other one has there, too."""
    check_program(program)
    check_table(program, one)
    check_table(program, other)
    return all([are_among(inside, around) for inside, around in zip(one, other)])


def joined(program, one, other):
    """The least table within which both tables are."""
    check_program(program)
    check_table(program, one)
    check_table(program, other)
    return tuple([tuple(sorted(set(left + right))) for left, right in zip(one, other)])


def check_table(program, table):
    """Refuses what is no table of the program."""
    if not is_table(program, table):
        raise InvalidTable("this is no table of the program")


def check_context(program, name, mode, table):
    """Refuses what makes no context of a program."""
    check_program(program)
    check_name(program, name)
    check_mode(program, mode)
    check_table(program, table)


def is_context(program, value):
    """Whether the value is a context of the program."""
    if not is_tuple(value, 3) or value[0] not in program:
        return False
    return is_below(value[1], program.modes) and is_table(program, value[2])


def is_escape(program, value):
    """Whether the value is a pair of a signal and a mode of the program."""
    return is_tuple(value, 2) and value[0] in program.signals and is_below(value[1], program.modes)


def place_of(program, signal, mode):
    """The index of a table's entry for the signal and the mode."""
    return program.signals.index(signal) * program.modes + mode


def are_among(inside, around):
    """Whether all modes of the first tuple are modes of the second one."""
    return all([mode in around for mode in inside])


def _many_entries(program):
    return len(program.signals) * program.modes


def _is_entry(value, modes):
    return value == () or is_mode_set(value, modes)


def _check_place(program, table, signal, mode):
    check_program(program)
    check_table(program, table)
    check_signal(program, signal)
    check_mode(program, mode)
