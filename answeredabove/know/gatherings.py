"""Gatherings: the contexts that are met in many worlds at once."""

from answeredabove.errors import TooMany
from answeredabove.know.meetings import KEYS, MOST_TABLES


class Gathering:
    """The contexts that some contexts, told as pairs (spot, mask of the table), meet together in each of the worlds,
    where there may be as many different tables as in a meeting.

    `tables` has for the mask of each table the spots that are met under it, packed. If not all that this rests on is
    known of the worlds, it is not whole.
    """

    def __init__(self, worlds, roots):
        self._worlds = worlds
        self._pack = worlds.pack
        self._calling = worlds.pack.spaced(worlds.plan.calling) * worlds.pack.every
        self._parts = {}
        self._new = {}
        self._doubtful = MOST_TABLES
        self.tables = {}
        self.whole = True
        for spot, mask in roots:
            self._find(mask, self._pack.every << (spot * self._pack.many))
        while self.whole and len(self._new) > 0:
            new = self._new
            self._new = {}
            for mask, packed in new.items():
                self._gather(mask, packed)
        self._check()

    def _find(self, mask, packed):
        """Takes spots under a table in; those of procedures that have calls are to be followed."""
        known = self.tables.get(mask, 0)
        packed &= ~known
        if packed > 0:
            self.tables[mask] = known | packed
            if packed & self._calling > 0:
                self._new[mask] = self._new.get(mask, 0) | packed & self._calling
            if len(self.tables) > self._doubtful:
                self._check()
                self._doubtful *= 2

    def _check(self):
        """Refuses too many tables in one world."""
        if len(self.tables) > MOST_TABLES:
            met = [self._pack.folded(packed) for packed in self.tables.values()]
            for world in range(self._pack.many):
                if sum([(worlds >> world) & 1 for worlds in met]) > MOST_TABLES:
                    raise TooMany(MOST_TABLES)

    def _gather(self, mask, packed):
        """Follows the calls of contexts under a table, which are packed."""
        many = self._pack.many
        answering = 0
        while packed > 0:
            spot = ((packed & -packed).bit_length() - 1) // many
            worlds = self._pack.at(packed, spot)
            packed ^= worlds << (spot * many)
            scene = self._worlds.scene(spot, mask)
            self._worlds.need(scene, worlds)
            self.whole = self._worlds.run()
            for tie in list(scene.ties.values()):
                if tie.worlds & worlds > 0 and self.whole:
                    answering |= self._follow(tie, mask, worlds)
        self._find(mask, answering)

    def _follow(self, tie, mask, worlds):
        """Follows a call under all its inner tables. The spots of what answers it are returned, packed."""
        many = self._pack.many
        come = tie.user.come
        made = [(spot * many, worlds & self._pack.at(come, state)) for spot, state in tie.spots.items()]
        for kept, added, part in self._parted(tie.offer, mask, worlds & tie.worlds):
            packed = 0
            for shift, where in made:
                packed |= (where & part) << shift
            if packed > 0:
                self._find(mask & kept | added, packed)
        answering = 0
        for reply in tie.offer.replies:
            answering |= (worlds & tie.worlds & reply.within) * reply.spots
        return answering

    def _parted(self, offer, mask, worlds):
        """What becomes of the inner table of a call, at least in these worlds, as Worlds tell it."""
        key = (mask & offer.around) * KEYS + offer.number
        known, parts = self._parts.get(key, (0, []))
        new = worlds & ~known
        if new > 0:
            modes = list(range(self._worlds.plan.width))
            answering = [self._worlds.who_answers(reply, mask, modes) for reply in offer.replies]
            self._worlds.need_all(offer, answering, new)
            self.whole = self._worlds.run()
            parts = parts + self._worlds.parted(offer, answering, new)
            self._parts[key] = (known | new, parts)
        return parts
