"""Tables: in which modes each signal, raised in each mode, can be resumed from outside."""

from answeredabove.base.checks import check_mode, check_name, check_program, check_signal
from answeredabove.base.words import is_below, is_mode_set, is_tuple
from answeredabove.errors import InvalidOperation, InvalidTable


def is_table(program, value):
    """Whether the value is a table of the program."""
    check_program(program)
    return mask_of_table(program, value) is not None


def empty_table(program):
    """The table with which nothing is resumed from outside."""
    check_program(program)
    return ((),) * _many_entries(program)


def full_table(program):
    """The table with which everything is resumed from outside, in every mode."""
    check_program(program)
    return (tuple(range(program.modes)),) * _many_entries(program)


def entry(program, table, signal, mode):
    """The entry of the table for the signal and the mode."""
    _check_place(program, table, signal, mode)
    return table[place_of(program, signal, mode)]


def with_entry(program, table, signal, mode, modes):
    """The table with these modes as its entry for the signal and the mode."""
    _check_place(program, table, signal, mode)
    if not _is_entry(modes, program.modes):
        raise InvalidOperation("these modes are no entry of a table of the program")
    at = place_of(program, signal, mode)
    return table[:at] + (modes,) + table[at + 1:]


def is_within(program, one, other):
    """Whether each entry of one table has only modes that the other one has there, too."""
    check_program(program)
    check_table(program, one)
    check_table(program, other)
    return all([are_among(inside, around) for inside, around in zip(one, other)])


def joined(program, one, other):
    """The least table within which both tables are."""
    check_program(program)
    check_table(program, one)
    check_table(program, other)
    return tuple([tuple(sorted(set(left + right))) for left, right in zip(one, other)])


def mask_of_table(program, value):
    """The mask of a table of the program, or None if the value is none."""
    modes = program.modes
    if not isinstance(value, tuple) or len(value) != len(program.signals) * modes:
        return None
    mask = 0
    shift = 0
    for each in value:
        if each != ():
            part = mask_of_modes(each, modes)
            if part is None:
                return None
            # No `|=` here, as an operator comes to this.
            mask = mask | (part << shift)
        shift += modes
    return mask


def mask_of_modes(value, modes):
    """The mask of an ascending tuple of some of so many modes, perhaps (), or None if the value is none."""
    if not isinstance(value, tuple):
        return None
    mask = 0
    last = -1
    for mode in value:
        if not isinstance(mode, int) or isinstance(mode, bool) or not last < mode < modes:
            return None
        mask = mask | (1 << mode)
        last = mode
    return mask


def check_table(program, table):
    """Refuses what is no table of the program; the mask of the table."""
    mask = mask_of_table(program, table)
    if mask is None:
        raise InvalidTable("this is no table of the program")
    return mask


def check_context(program, name, mode, table):
    """Refuses what makes no context of a program; the mask of the table."""
    check_program(program)
    check_name(program, name)
    check_mode(program, mode)
    return check_table(program, table)


def mask_of_context(program, value):
    """The mask of the table of a context of the program, or None if the value is none."""
    if not is_tuple(value, 3) or value[0] not in program or not is_below(value[1], program.modes):
        return None
    return mask_of_table(program, value[2])


def is_escape(program, value):
    """Whether the value is a pair of a signal and a mode of the program."""
    return is_tuple(value, 2) and value[0] in program.signals and is_below(value[1], program.modes)


def place_of(program, signal, mode):
    """The index of a table's entry for the signal and the mode."""
    return program.signals.index(signal) * program.modes + mode


def are_among(inside, around):
    """Whether all modes of the first tuple are modes of the second one."""
    return all([mode in around for mode in inside])


def _many_entries(program):
    return len(program.signals) * program.modes


def _is_entry(value, modes):
    return value == () or is_mode_set(value, modes)


def _check_place(program, table, signal, mode):
    check_program(program)
    check_table(program, table)
    check_signal(program, signal)
    check_mode(program, mode)
