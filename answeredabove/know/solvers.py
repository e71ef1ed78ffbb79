"""Solvers: the leaves and escapes of contexts, found as the least sets that follow from one another.

What is told of a context grows while it is learned, and it is always true. While an inner table is not known as a
whole, calls are followed under the part that is known. So a solver can come to contexts that are not met in the end, in
some programs to very many. Then it becomes wary: it takes over for a context what is true under tables within its own
one, and it is done with a context as soon as all is told that could be true of it.
"""

from heapq import heapify, heappop, heappush

from answeredabove.know.ceilings import Ceilings
from answeredabove.know.plans import Plan
from answeredabove.know.walks import NOTHING, Walk

FEW_TABLES = 20
ROUND = 200


class Solver:
    """What is known of the contexts of one program; it learns more with each question.

    `told` has the masks of the leaves and of the escapes of contexts as far as they are known, `sure` those that are
    known as a whole.
    """

    def __init__(self, program):
        self.plan = Plan(program)
        self.told = {}
        self.sure = {}
        self._ceilings = None
        self._ages = {}
        self._fellows = {}
        self._needs = {}
        self._users = {}
        self._dirty = {}
        self._queue = []
        self._past = {}
        self._time = 0

    def hasten(self, contexts):
        """Learns all about contexts at once, unless it takes many tables: then the solver becomes wary."""
        if self._ceilings is not None:
            return
        most = len(self._ages) + FEW_TABLES
        learned = []
        for context in contexts:
            if context not in self._users:
                self._meet(context)
        while len(self._queue) > 0 and len(self._ages) <= most:
            learned.append(heappop(self._queue)[1])
            self._learn(learned[-1])
        if len(self._queue) > 0:
            self._ceilings = Ceilings(self.plan)
        else:
            for context in learned:
                self.sure[context] = self.told[context]

    def solve(self, context):
        """Learns all about a context."""
        if context not in self._users:
            self._meet(context)
        near = self._near(context)
        self._queue = self._dirty_ones(near)
        while len(self._queue) > 0:
            self._learn_some(max(ROUND, len(near)))
            # What is no longer needed is left as it is.
            near = self._near(context)
            self._queue = self._dirty_ones(near)
        for each in near:
            self.sure[each] = self.told[each]

    def birth(self, context, which, bit):
        """When and on what a bit of the leaves (0) or of the escapes (1) of a context was first told: the context under
        a table within its own from which it was taken over, or itself; the time; and what was told ahead of that time
        of the contexts that were needed."""
        born = self._first(context, which, bit)
        while born[3] is not None:
            context = born[3]
            born = self._first(context, which, bit)
        time, _, needs, _ = born
        told = {}
        for need in needs:
            masks = self._told_before(need, time)
            if masks is not None:
                told[need] = masks
        return context, time, told

    def _first(self, context, which, bit):
        told = [each for each in self._past[context] if each[1][which] & bit > 0]
        return told[0]

    def _told_before(self, context, time):
        told = [masks for then, masks, _, _ in self._past.get(context, []) if then < time]
        return told[-1] if len(told) > 0 else None

    def _near(self, context):
        """The contexts on which what is true of a context rests, as far as it is not sure."""
        found = [context]
        seen = {context: True}
        at = 0
        while at < len(found):
            here = found[at]
            if here not in self.sure and not self._is_full(here):
                for need in self._needs.get(here, []):
                    if need not in seen:
                        seen[need] = True
                        found.append(need)
            at += 1
        return found

    def _dirty_ones(self, contexts):
        queue = [(self._turn(context), context) for context in contexts if context in self._dirty]
        heapify(queue)
        return queue

    def _learn_some(self, many):
        while len(self._queue) > 0 and many > 0:
            _, context = heappop(self._queue)
            if context in self._dirty:
                self._learn(context)
                many -= 1

    def _learn(self, context):
        del self._dirty[context]
        walk = self._walked(context)
        needs = list(walk.needs)
        self._needs[context] = needs
        for need in needs:
            self._users[need][context] = True
        left, escaped = self.told.get(context, NOTHING)
        masks = (left | walk.left, escaped | walk.escaped)
        if context not in self.told or masks != (left, escaped):
            self._tell(context, masks, needs, None)
            for user in list(self._users[context]):
                self._soil(user)

    def _walked(self, context):
        """The walk of a context, with what is told of all contexts that it needs."""
        scopes = None if self._ceilings is None else self._ceilings.scopes
        walk = Walk(self.plan, self.told, self.told, scopes, context)
        while self._meet_all(walk.needs):
            walk = Walk(self.plan, self.told, self.told, scopes, context)
        return walk

    def _meet_all(self, contexts):
        """Begins to know these contexts; whether something is told of a new one at once."""
        more = False
        for context in contexts:
            if context not in self._users:
                self._meet(context)
                more = more or context in self.told
        return more

    def _meet(self, context):
        self._users[context] = {}
        self._ages.setdefault(context[2], len(self._ages))
        fellows = self._fellows.setdefault(context[:2], [])
        if self._ceilings is not None:
            for fellow in fellows:
                if fellow[2] & ~context[2] == 0:
                    self._take_over(context, fellow)
        fellows.append(context)
        self._soil(context)

    def _take_over(self, context, fellow):
        left, escaped = self.told.get(context, NOTHING)
        more, others = self.told.get(fellow, NOTHING)
        masks = (left | more, escaped | others)
        if masks != (left, escaped):
            self._tell(context, masks, None, fellow)

    def _tell(self, context, masks, needs, fellow):
        self._time += 1
        self.told[context] = masks
        self._past.setdefault(context, []).append((self._time, masks, needs, fellow))

    def _soil(self, context):
        """Notes that a context is to be walked, unless all is known of it."""
        if context not in self._dirty and context not in self.sure and not self._is_full(context):
            self._dirty[context] = True
            heappush(self._queue, (self._turn(context), context))

    def _is_full(self, context):
        """Whether all is told of a context that could be true of it."""
        if self._ceilings is None or context not in self.told:
            return False
        return self.told[context] == self._ceilings.above(context)

    def _turn(self, context):
        """What is learned first: what others rest on; but elder tables, if there are many that may be of no use."""
        if self._ceilings is None:
            return self.plan.ranks[context[0]], self._ages[context[2]]
        return self._ages[context[2]], self.plan.ranks[context[0]]
