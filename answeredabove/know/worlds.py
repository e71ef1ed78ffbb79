"""Worlds: what a program does without some of its answers, found for many such choices of answers at once.

What is told of a context is told for all worlds together, so that what does not hang on these answers is found once.
Where an inner table is not the same in all worlds, a call is followed under several tables, each in worlds of its own.
New scenes are put off until all is known of those that are there: so few are made that are not met in the end.
"""

from answeredabove.know.offers import Offers
from answeredabove.know.scenes import Pack, Scene, Tie
from answeredabove.know.walks import NEAR, walked


class Worlds:
    """What is known of the contexts of a plan in so many worlds. `within` has answers and the worlds in which they are
    not left out. Ties are followed so many times at most; then not all is known."""

    def __init__(self, plan, many, within, most):
        self.plan = plan
        self.pack = Pack(many)
        self._offers = Offers(plan, self.pack, within)
        self._scopes = self._offers.scopes
        self._scenes = [{} for _ in plan.first]
        self._escapes = self.pack.spaced(plan.passing)
        self._waiting = []
        self._late = []
        self._most = most

    def scene(self, spot, mask):
        """What is known of a context."""
        mask &= self._scopes[spot]
        scenes = self._scenes[spot]
        return scenes[mask] if mask in scenes else self._made(spot, mask)

    def need(self, scene, worlds):
        """Has it learned what is true of a scene in some worlds."""
        new = worlds & ~scene.within
        if new > 0:
            scene.within |= new
            self._reach(scene, new * scene.first)
            self._soil(scene)

    def run(self):
        """Learns all about all scenes where they are needed; whether there is nothing more."""
        while self._most > 0 and (len(self._waiting) > 0 or len(self._late) > 0):
            if len(self._waiting) == 0:
                self._open_late()
            scenes = self._waiting
            self._waiting = []
            for scene in scenes:
                self._work(scene)
        return len(self._waiting) == 0 and len(self._late) == 0

    def who_answers(self, reply, mask, modes):
        """What answers, if the signal is raised in these modes: what it surely adds to the inner table; the scenes of
        which more may be learned, each behind the shift of its entry; and all scenes, each behind the place of the
        escape."""
        added = 0
        unsure = []
        row = []
        for mode in modes:
            scene = self.scene(reply.by + mode, mask)
            place = reply.first + mode
            row.append((place, scene))
            if scene.sure is None:
                unsure.append((place * self.plan.width, scene))
            else:
                added |= (scene.sure & reply.resumes) << (place * self.plan.width)
        return added, unsure, row

    def need_all(self, offer, answering, worlds):
        """Has it learned what is true in some worlds of all that answers a call, as it is told for each reply."""
        for reply, (_, unsure, _) in zip(offer.replies, answering):
            for _, scene in unsure:
                self.need(scene, worlds & reply.within)

    def parted(self, offer, answering, worlds):
        """What becomes of the inner table of a call in some worlds, as triples (part of the table that stays, what is
        added, the worlds)."""
        found = [(offer.kept, 0, worlds)]
        for reply, (added, unsure, _) in zip(offer.replies, answering):
            parts = [(0, added, worlds & reply.within)]
            for shift, scene in unsure:
                if scene.left > 0:
                    parts = self._with_left(parts, scene.left, reply.resumes, shift)
            parts.append((reply.block, 0, worlds & ~reply.within))
            found = [
                (kept | more, bits | other, where & part)
                for kept, bits, where in found for more, other, part in parts if where & part > 0
            ]
        return found

    def _with_left(self, parts, left, resumes, shift):
        """Parts of worlds where the modes that are left, as far as the answer resumes in them, are added, too."""
        while resumes > 0:
            worlds = left & self.pack.every
            if resumes & 1 == 1 and worlds > 0:
                bit = 1 << shift
                new = [(0, bits | bit, part & worlds) for _, bits, part in parts if part & worlds > 0]
                parts = new + [(0, bits, part & ~worlds) for _, bits, part in parts if part & ~worlds > 0]
            left >>= self.pack.many
            resumes >>= 1
            shift += 1
        return parts

    def _made(self, spot, mask):
        sheet, come = self.plan.first[spot]
        scene = Scene(mask, sheet, self.pack.spaced(come))
        self._scenes[spot][mask] = scene
        if not self.plan.has_calls(spot):
            # It rests on nothing, so it is known as a whole.
            left, escaped, _ = walked(self.plan, {}, NEAR, spot, mask)
            scene.within = self.pack.every
            scene.sure = left
            scene.left = scene.within * self.pack.spaced(left)
            scene.escaped = scene.within * self.pack.spaced(escaped)
        return scene

    def _reach(self, scene, come):
        """Comes to states that are packed, and makes the moves there."""
        pack = self.pack
        acts = scene.sheet.acts
        come &= ~scene.come
        while come > 0:
            scene.come |= come
            more = 0
            while come > 0:
                state = ((come & -come).bit_length() - 1) // pack.many
                new = pack.at(come, state)
                come ^= new << (state * pack.many)
                if 1 << state in acts:
                    raised, calls = acts[1 << state]
                    for escape, shift, there in raised:
                        scene.raised |= new * pack.spaced(escape)
                        more |= new * pack.spaced(there[(scene.mask >> shift) & self.plan.full])
                    for call, mode in calls:
                        self._tie(scene, state, call, mode, new)
            come = more & ~scene.come

    def _tie(self, scene, state, call, mode, worlds):
        if call.number not in scene.ties:
            scene.ties[call.number] = Tie(scene, self._offers.offer_of(call))
        tie = scene.ties[call.number]
        spot = call.base + mode
        if spot not in tie.spots:
            tie.spots[spot] = state
            tie.goals[spot] = {}
        tie.worlds |= worlds
        self._spoil(tie, worlds)

    def _spoil(self, tie, worlds):
        """Has a tie followed again in some worlds."""
        tie.pending |= worlds
        if not tie.dirty:
            tie.dirty = True
            tie.user.dirty.append(tie)

    def _soil(self, scene):
        if not scene.waiting:
            scene.waiting = True
            self._waiting.append(scene)

    def _open_late(self):
        late = self._late
        self._late = []
        for tie in late:
            tie.late = False
            tie.opening = True
            self._spoil(tie, 0)
            self._soil(tie.user)

    def _work(self, scene):
        """Follows the ties of a scene that are dirty, and tells others what comes of it."""
        while len(scene.dirty) > 0:
            tie = scene.dirty.pop()
            tie.dirty = False
            self._most -= 1
            self._follow(tie)
        scene.waiting = False
        left = scene.sheet.left_in(scene.come, self.pack)
        if left != scene.left or scene.raised != scene.escaped:
            changed = self.pack.folded(left ^ scene.left) | self.pack.folded(scene.raised ^ scene.escaped)
            scene.left = left
            scene.escaped = scene.raised
            for tie in scene.users:
                if tie.worlds & changed > 0:
                    self._spoil(tie, tie.worlds & changed)
                    self._soil(tie.user)

    def _follow(self, tie):
        user = tie.user
        if tie.asked is None:
            self._ask(tie)
        if tie.needed != tie.worlds:
            tie.needed = tie.worlds
            self.need_all(tie.offer, tie.asked, tie.worlds)
        basis = [tie.worlds] + [scene.left for _, scene in tie.unsure]
        if basis != tie.basis:
            tie.basis = basis
            self._group(tie)
        pending = tie.pending
        tie.pending = 0
        more = 0
        for spot, state in list(tie.spots.items()):
            worlds = self.pack.at(user.come, state)
            if worlds & pending > 0:
                more |= self._lead(tie, spot, worlds, pending)
        tie.opening = False
        if more & ~user.come > 0:
            self._reach(user, more)

    def _lead(self, tie, spot, worlds, pending):
        """Follows a call in one mode, in some worlds of which some are pending; the states to which this leads."""
        more = 0
        for mask, part in tie.groups.items():
            if part & worlds & pending > 0:
                goal = self._goal(tie, spot, mask & self._scopes[spot])
                if goal is None:
                    self._put_off(tie, part & worlds & pending)
                else:
                    self.need(goal, part & worlds)
                    if goal.left > 0 or goal.escaped > 0:
                        more |= self._led(tie, goal, part & worlds)
        return more

    def _ask(self, tie):
        tie.asked = [self.who_answers(reply, tie.user.mask, reply.asks) for reply in tie.offer.replies]
        tie.unsure = [each for _, unsure, _ in tie.asked for each in unsure]
        for _, scene in tie.unsure:
            scene.users.append(tie)

    def _group(self, tie):
        """Finds the inner tables, as far as they matter to what is called."""
        tie.groups = {}
        for kept, added, part in self.parted(tie.offer, tie.asked, tie.worlds):
            mask = (tie.user.mask & kept | added) & tie.offer.matters
            tie.groups[mask] = tie.groups.get(mask, 0) | part

    def _goal(self, tie, spot, mask):
        """The scene of what is called under an inner table, or None if it would be a new one that is put off."""
        goals = tie.goals[spot]
        if mask not in goals:
            # An inner table that is not known as a whole may be one that is not met.
            early = len(tie.unsure) > 0 and not tie.opening
            if early and self.plan.has_calls(spot) and mask not in self._scenes[spot]:
                return None
            goals[mask] = self.scene(spot, mask)
            goals[mask].users.append(tie)
        return goals[mask]

    def _put_off(self, tie, worlds):
        tie.pending |= worlds
        if not tie.late:
            tie.late = True
            self._late.append(tie)

    def _led(self, tie, goal, worlds):
        """The states to which a call leads in some worlds; what escapes from it there is noted."""
        more = 0
        left = goal.left
        for states in tie.offer.there:
            more |= (left & worlds) * states
            left >>= self.pack.many
        escaped = goal.escaped & (worlds * self._escapes)
        if escaped > 0:
            user = tie.user
            user.raised |= escaped & tie.offer.passed
            escaped &= ~tie.offer.passed
            if escaped > 0:
                more |= self._answered(tie, escaped)
        return more

    def _answered(self, tie, escaped):
        """The states to which a call leads where its escapes are answered; what escapes from the answers is noted."""
        many = self.pack.many
        more = 0
        further = 0
        for reply, (_, _, row) in zip(tie.offer.replies, tie.asked):
            for place, scene in row:
                worlds = (escaped >> (place * many)) & self.pack.every
                if worlds > 0:
                    further |= scene.escaped & (worlds * self._escapes)
                    for mode, states in reply.ways:
                        more |= ((scene.left >> (mode * many)) & worlds) * states
        user = tie.user
        user.raised |= further
        return more
