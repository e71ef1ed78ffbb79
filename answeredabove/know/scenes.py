"""Scenes: what is known of contexts in many worlds at once.

A *world* is a program without some of its answers; a mask of worlds has bit w for the world w. What holds in different
worlds for each of several states, modes or escapes is *packed*: one integer has a mask of worlds for each of them, one
behind the other.
"""

from answeredabove.know.masks import bits_of


class Pack:
    """How so many worlds are packed."""

    def __init__(self, many):
        self.many = many
        self.every = (1 << many) - 1
        self._spaced = {}

    def spaced(self, mask):
        """The bits of a mask, packed for the world 0 alone. Times a mask of worlds, they are packed for these."""
        if mask not in self._spaced:
            found = 0
            for at in bits_of(mask):
                found |= 1 << (at * self.many)
            self._spaced[mask] = found
        return self._spaced[mask]

    def at(self, packed, place):
        """The worlds that are packed at a place."""
        return (packed >> (place * self.many)) & self.every

    def folded(self, packed):
        """The worlds that are packed anywhere."""
        found = 0
        while packed > 0:
            found |= packed & self.every
            packed >>= self.many
        return found


class Scene:
    """A context in the worlds of `within`, in which it is needed.

    `first` has the states to which it comes at once, packed for the world 0 alone. `come`, the states that are come
    to, and `raised`, the escapes, are ahead of what is told to others: `left`, the modes that are left, and `escaped`.
    `ties` has the calls that are come to, by their numbers and modes, and `dirty` those of them that are to be followed
    again. A scene that is waiting is to be worked upon. `users` are the ties of other scenes which rest on this one.
    """

    def __init__(self, mask, sheet, first):
        self.mask = mask
        self.sheet = sheet
        self.first = first
        self.within = 0
        self.come = 0
        self.raised = 0
        self.left = 0
        self.escaped = 0
        self.sure = None
        self.ties = {}
        self.dirty = []
        self.users = []
        self.waiting = False


class Tie:
    """A call that a scene, the user, makes in some worlds; `spots` has the spots of what is called, and the states in
    which this is done.

    `asked` has for each reply of the offer what answers, as Worlds tell it, and `unsure` those of these scenes of which
    more may be learned; they are needed in the worlds of `needed`. `groups` has for the inner tables the worlds in
    which each one is the inner table, as they were found from `basis`, and `goals` for each spot the scenes of what is
    called, by the masks of these tables. In the worlds of `pending` the tie is to be followed. It is late if it has put
    off new scenes, and opening when it may make them.
    """

    def __init__(self, user, offer):
        self.user = user
        self.offer = offer
        self.worlds = 0
        self.spots = {}
        self.asked = None
        self.unsure = []
        self.needed = 0
        self.basis = None
        self.groups = {}
        self.goals = {}
        self.pending = 0
        self.dirty = False
        self.late = False
        self.opening = False
