"""Solvers: the leaves and escapes of contexts, found as the least sets that follow from one another.

What is told of a context grows while it is learned. While an inner table is not known as a whole, a call is followed
under the part that is known. So a solver can come to contexts that are not met in the end, in some programs to very
many. Then it becomes wary: it learns only what a question rests on, and elder tables first; it takes over for a context
what is true under tables within its own one; and it is done with a context as soon as all is told that could be true.
"""

from heapq import heapify, heappop, heappush

from answeredabove.know.ceilings import Ceilings
from answeredabove.know.cells import Cell, Link

LONG = 5000
STALE = 10
ROUND = 200


class Solver:
    """What is known of the contexts of one program; it learns more with each question.

    `added` is for meetings: they keep in it what the answers of calls surely add to inner tables.
    """

    def __init__(self, plan):
        self.plan = plan
        self.wary = False
        self.added = {}
        self._scopes = plan.scopes
        self._cells = [{} for _ in plan.scopes]
        self._numbered = []
        self._time = 0
        self._stack = []
        self._fresh = []
        self._stale = 0
        self._ceilings = None
        self._ages = {}
        self._queue = []

    def cell(self, spot, mask):
        """What is known of a context."""
        mask &= self._scopes[spot]
        cells = self._cells[spot]
        return cells[mask] if mask in cells else self._made(spot, mask)

    def size(self):
        """How many cells there are."""
        return len(self._numbered)

    def is_done(self):
        """Whether all is known of all cells."""
        return len(self._stack) == 0 and len(self._fresh) == 0 and not self.wary

    def run(self, most):
        """Learns all about all cells, in so many steps at most; whether there is nothing more."""
        stack = self._stack
        stale = self._stale + STALE
        self._rouse()
        while len(stack) > 0 and most > 0 and self._stale <= stale:
            most -= 1
            cell = stack.pop()
            self._work(cell)
            if len(self._fresh) == 0:
                cell.waiting = False
                self._tell(cell)
            else:
                # This cell again, but first what it needs. What is true of it anyway is told ahead of that, so that
                # it is derived by itself.
                if cell.raised > 0 or cell.sheet.left_from(cell.come) > 0:
                    self._tell(cell)
                stack.append(cell)
                self._rouse()
        return len(stack) == 0

    def run_long(self):
        """Learns all about all cells, or becomes wary; whether there is nothing more."""
        if not self.wary and not self.run(LONG):
            self.wary = True
            self._ceilings = Ceilings(self.plan)
        return not self.wary

    def settle(self, cell):
        """Learns all that is told of a cell."""
        if not self.is_done() and not self.is_settled(cell) and not self.run_long():
            self.solve(cell)

    def solve(self, cell):
        """Learns all that is told of a cell, as a wary solver."""
        near = self._near(cell)
        self._queue = self._waiting_ones(near)
        while len(self._queue) > 0:
            self._learn_some(max(ROUND, len(near)))
            # What is no longer needed is left as it is.
            near = self._near(cell)
            self._queue = self._waiting_ones(near)
        for each in near:
            each.sure = True

    def touch(self, cell):
        """Learns what a cell comes to from what is told of others."""
        if cell.waiting:
            self._learn(cell)

    def is_settled(self, cell):
        """Whether all is told of a cell, because nothing is left to be learned on which it rests."""
        if not cell.sure and not self.wary:
            near = self._near(cell)
            if any([each.waiting for each in near]):
                return False
            for each in near:
                each.sure = True
        return cell.sure

    def _made(self, spot, mask):
        sheet, come = self.plan.first[spot]
        cell = Cell(spot, mask, len(self._numbered), sheet, come)
        self._cells[spot][mask] = cell
        self._numbered.append(cell)
        if come & sheet.active > 0:
            self._expand(cell, come & sheet.active)
        if len(cell.dirty) > 0:
            if self.wary:
                self._take_over(cell)
            self._soil(cell)
        else:
            # It rests on nothing, so it is known as a whole, and ahead of all else.
            cell.sure = True
            cell.left = sheet.left_from(cell.come)
            cell.escaped = cell.raised
            cell.past.append((0, cell.left, cell.escaped, None))
        return cell

    def _expand(self, cell, todo):
        """Makes the moves in states that are new, and comes to others by them."""
        come = cell.come
        mask = cell.mask
        full = self.plan.full
        acts = cell.sheet.acts
        active = cell.sheet.active
        while todo > 0:
            bit = todo & -todo
            todo ^= bit
            raised, calls = acts[bit]
            for escape, shift, there in raised:
                cell.raised |= escape
                new = there[(mask >> shift) & full] & ~come
                come |= new
                todo |= new & active
            for call, mode in calls:
                self._link(cell, call, mode)
        cell.come = come

    def _link(self, cell, call, mode):
        if call.number not in cell.links:
            cell.links[call.number] = Link(cell, call, mode)
            cell.dirty.append(cell.links[call.number])
        else:
            link = cell.links[call.number]
            link.within.append(mode)
            link.spots |= 1 << (call.base + mode)
            if not link.dirty:
                link.dirty = True
                cell.dirty.append(link)

    def _work(self, cell):
        """Follows the links of a cell that are dirty."""
        while len(cell.dirty) > 0:
            link = cell.dirty.pop()
            link.dirty = False
            if link.asked is None:
                link.asked = self._asked(cell, link)
            self._follow(cell, link)

    def _asked(self, cell, link):
        """The cells of the procedures that answer."""
        found = []
        for ask in link.call.asks:
            spot = ask[0]
            mask = cell.mask & self._scopes[spot]
            cells = self._cells[spot]
            other = cells[mask] if mask in cells else self._made(spot, mask)
            if not other.sure:
                other.users.append(link)
            found.append(other)
        cell.needs.extend(found)
        return found

    def _follow(self, cell, link):
        call = link.call
        inner = cell.mask & call.kept
        for asked, (_, _, shift, resumes, _) in zip(link.asked, call.asks):
            if len(asked.past) == 0:
                # As soon as something is told of it, the link is followed.
                return
            inner |= (asked.left & resumes) << shift
        more = 0
        for mode in link.within:
            goal = link.goals.get(mode, None)
            spot = call.base + mode
            if goal is None or goal.mask != inner & self._scopes[spot]:
                if goal is not None:
                    self._stale += 1
                goal = self._needed(cell, link, spot, inner)
                link.goals[mode] = goal
            more |= call.there[goal.left]
            if goal.escaped > 0:
                cell.raised |= goal.escaped & call.passed
                more |= self._answered(cell, link, goal.escaped & ~call.passed)
        more &= ~cell.come
        if more > 0:
            cell.come |= more
            self._expand(cell, more & cell.sheet.active)

    def _answered(self, cell, link, escaped):
        """The states to which a call leads where some of its escapes are answered; what escapes from the answers is
        noted."""
        more = 0
        for asked, (_, bit, _, _, led) in zip(link.asked, link.call.asks):
            if escaped & bit > 0:
                cell.raised |= asked.escaped
                for mode, states in led:
                    if asked.left & mode > 0:
                        more |= states
        return more

    def _needed(self, cell, link, spot, mask):
        mask &= self._scopes[spot]
        cells = self._cells[spot]
        other = cells[mask] if mask in cells else self._made(spot, mask)
        cell.needs.append(other)
        if not other.sure:
            other.users.append(link)
        return other

    def _tell(self, cell):
        """Tells others how far a cell comes, where this is more than before, or the first time."""
        left = cell.left | cell.sheet.left_from(cell.come)
        escaped = cell.escaped | cell.raised
        if len(cell.past) > 0 and left == cell.left and escaped == cell.escaped:
            return
        self._note(cell, left, escaped, None)
        for link in cell.users:
            if not link.dirty:
                link.dirty = True
                link.user.dirty.append(link)
            if not link.user.waiting:
                self._soil(link.user)

    def _note(self, cell, left, escaped, source):
        self._time += 1
        cell.left = left
        cell.escaped = escaped
        cell.past.append((self._time, left, escaped, source))

    def _soil(self, cell):
        cell.waiting = True
        if self.wary:
            heappush(self._queue, self._turn(cell))
        elif len(cell.past) == 0:
            self._fresh.append(cell)
        else:
            self._stack.append(cell)

    def _rouse(self):
        self._stack.extend(self._fresh[::-1])
        self._fresh = []

    def _take_over(self, cell):
        """Tells of a new cell what is true of others with lesser tables; all is told if no more is true of those with
        greater ones."""
        left = self.plan.full
        escaped = -1
        for fellow in self._cells[cell.spot].values():
            if fellow.mask & ~cell.mask == 0:
                if cell.left | fellow.left != cell.left or cell.escaped | fellow.escaped != cell.escaped:
                    self._note(cell, cell.left | fellow.left, cell.escaped | fellow.escaped, fellow)
            elif fellow.sure and cell.mask & ~fellow.mask == 0:
                left &= fellow.left
                escaped &= fellow.escaped
        if cell.left == left and cell.escaped == escaped:
            cell.sure = True
            if len(cell.past) == 0:
                self._note(cell, left, escaped, None)

    def _near(self, cell):
        """The cells on which what is told of a cell rests, as far as they are not sure."""
        found = [cell]
        seen = {cell.number: True}
        at = 0
        while at < len(found):
            here = found[at]
            if not here.sure and not self._is_full(here):
                for link in here.links.values():
                    for need in (link.asked or []) + list(link.goals.values()):
                        if need.number not in seen:
                            seen[need.number] = True
                            found.append(need)
            at += 1
        return found

    def _waiting_ones(self, cells):
        queue = [self._turn(cell) for cell in cells if cell.waiting and not cell.sure and not self._is_full(cell)]
        heapify(queue)
        return queue

    def _learn_some(self, many):
        while len(self._queue) > 0 and many > 0:
            cell = self._numbered[heappop(self._queue)[2]]
            if cell.waiting and not cell.sure and not self._is_full(cell):
                self._learn(cell)
                many -= 1

    def _learn(self, cell):
        cell.waiting = False
        self._work(cell)
        self._tell(cell)

    def _is_full(self, cell):
        """Whether all is told of a cell that could be true of it."""
        if not self.wary or len(cell.past) == 0:
            return False
        return (cell.left, cell.escaped) == self._ceilings.above(cell.spot, cell.mask)

    def _turn(self, cell):
        """When a wary solver learns about a cell: elder tables are more likely to be of use."""
        age = self._ages.setdefault(cell.mask, len(self._ages))
        return age, self.plan.ranks[cell.spot // self.plan.width], cell.number
