"""Masks: integers that stand for sets of modes, for tables and for escapes.

Bit m of a mask of modes is the mode m. A table's mask has its entries one behind the other, and an escapes' mask
has a bit for each signal and each mode, in the same order as a table has its entries.
"""

# The modes of each mask of modes.
MODE_SETS = (
    (), (0,), (1,), (0, 1), (2,), (0, 2), (1, 2), (0, 1, 2),
    (3,), (0, 3), (1, 3), (0, 1, 3), (2, 3), (0, 2, 3), (1, 2, 3), (0, 1, 2, 3),
)


def mask_of(modes):
    """The mask of modes."""
    mask = 0
    for mode in modes:
        mask |= 1 << mode
    return mask


def bits_of(mask):
    """The bits of a mask, ascending."""
    return [at for at in range(mask.bit_length()) if (mask >> at) & 1 == 1]
