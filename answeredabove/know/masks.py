"""Masks: integers that stand for sets of modes, for tables and for escapes.

Bit m of a mask of modes is the mode m. A table's mask has its entries one behind the other, and an escapes' mask
has a bit for each signal and each mode, in the same order as a table has its entries.
"""

from answeredabove.know.tables import place_of


def mask_of(modes):
    """The mask of modes."""
    mask = 0
    for mode in modes:
        mask |= 1 << mode
    return mask


def modes_of(mask):
    """The modes of a mask, ascending."""
    return tuple([mode for mode in range(mask.bit_length()) if (mask >> mode) & 1 == 1])


def table_mask(program, table):
    """The mask of a table."""
    mask = 0
    for at, modes in enumerate(table):
        mask |= mask_of(modes) << (at * program.modes)
    return mask


def table_of(program, mask):
    """The table of a mask."""
    full = (1 << program.modes) - 1
    many = len(program.signals) * program.modes
    return tuple([modes_of((mask >> (at * program.modes)) & full) for at in range(many)])


def escapes_mask(program, escapes):
    """The mask of pairs of a signal and a mode."""
    mask = 0
    for signal, mode in escapes:
        mask |= 1 << place_of(program, signal, mode)
    return mask


def escapes_of(program, mask):
    """The pairs of a signal and a mode of a mask, ascending."""
    modes = program.modes
    return tuple([(program.signals[at // modes], at % modes) for at in modes_of(mask)])
