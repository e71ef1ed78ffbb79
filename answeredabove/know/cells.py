"""Cells: what is known of contexts, each one under the part of its table that matters."""


class Cell:
    """What is known of a context.

    `left` and `escaped` are told to others; they grow, and they are always true. `come` and `raised` are ahead of them
    while the cell is worked upon. `links` has the calls that are come to, by their numbers. `users` are the links of
    other cells which rest on this cell, `needs` the cells on which this one rests or rested. `past` tells when `left`
    and `escaped` grew, as tuples (time, left, escaped, None, or the cell from which they were taken over).

    `dirty` has the links that are to be followed again; while there are some, the cell is waiting. What is told of a
    cell that is sure does not grow any more.
    """

    def __init__(self, spot, mask, number, sheet, come):
        self.spot = spot
        self.mask = mask
        self.number = number
        self.sheet = sheet
        self.come = come
        self.raised = 0
        self.left = 0
        self.escaped = 0
        self.links = {}
        self.users = []
        self.needs = []
        self.past = []
        self.dirty = []
        self.waiting = False
        self.sure = False


class Link:
    """A call to which a cell, the user, comes in the modes of `within`; `spots` has the bits of what is called in them.
    `asked` are the cells of the procedures that answer, or None as long as there are none, and `goals` has for each
    mode the cell of what is called."""

    def __init__(self, user, call, mode):
        self.user = user
        self.call = call
        self.within = [mode]
        self.spots = 1 << (call.base + mode)
        self.asked = None
        self.goals = {}
        self.dirty = True
