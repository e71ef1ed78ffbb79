"""Dives: short ways through contexts to situations in which many raises are open."""

from heapq import heappop, heappush

from answeredabove.base.moves import modes_in
from answeredabove.errors import TooMany
from answeredabove.know.counts import MOST
from answeredabove.run.runs import MOST_STEPS


class Dive:
    """Ways to so many open raises, the shortest ones where each step of a path counts as one.

    For each quantity `_costs` has how long a way to at least 0, 1, 2 .. of it is, as far as it comes, and `_hows` how
    this way goes: None for the first situation of a context, (index, mode) for a raise that escapes, or (rule, many,
    many or None) for a rule with so many of the quantities that it needs.
    """

    def __init__(self, program, guide, counting):
        self._program = program
        self._guide = guide
        self._contexts = counting.contexts
        self._costs = {quantity: [] for quantity in counting.rules}
        self._hows = {quantity: [] for quantity in counting.rules}
        self._users = {quantity: [] for quantity in counting.rules}
        self._sums = []
        self._queue = []
        self._ways = []
        for rules in counting.rules.values():
            for rule in rules:
                self._note(rule, self._cost_of(rule))

    def dive(self, roots, many):
        """The context among these from which a shortest way to so many open raises leads."""
        for level in range(many + 1):
            self._fill(level)
        best = [(self._costs[(root, MOST)][many], root) for root in roots if len(self._costs[(root, MOST)]) > many]
        if len(best) == 0:
            raise TooMany(MOST_STEPS)
        return min(best)[1]

    def parts(self, root, many):
        """The parts of a run along this way from a context to so many open raises."""
        found = []
        waiting = [((root, MOST), many, False)]
        while len(waiting) > 0:
            quantity, level, ahead = waiting.pop()
            how = self._hows[quantity][level]
            if how is not None and len(how) == 2:
                fact, path = self._guide.entering(quantity[0], how[0], how[1])
                found.append((fact, path[:-1] if ahead else path))
            elif how is not None:
                rule, one, other = how
                if rule[3] is not None:
                    found.append(self._guide.entering(quantity[0], rule[3][0].site[1], rule[3][1]))
                if other is not None:
                    waiting.append((rule[2], other, ahead))
                # A way to the most ends ahead of an escape, where it goes by one, but not where this one is answered.
                waiting.append((rule[1], one, other is None and (ahead or rule[3] is None)))
        return found

    def _note(self, rule, more):
        self._users[rule[1]].append((rule, more))
        if rule[2] is not None:
            self._sums.append((rule, more))
            if rule[2] != rule[1]:
                self._users[rule[2]].append((rule, more))

    def _cost_of(self, rule):
        """How long it is up to the call of a rule, which is made, too."""
        if rule[3] is None:
            return 0
        call, mode = rule[3]
        return len(self._guide.way(rule[0][0], self._program.move(call.site)[1], mode)) + 1

    def _fill(self, level):
        """Finds the shortest ways to this level of all quantities, where those to all lower ones are known."""
        self._queue = []
        self._ways = []
        if level == 0:
            for context in self._contexts:
                self._push(0, (context, MOST), None)
                self._push_raises(context)
        else:
            for rule, more in self._sums:
                self._push_sum(rule, more, level)
        while len(self._queue) > 0:
            cost, number = heappop(self._queue)
            quantity, how = self._ways[number]
            if len(self._costs[quantity]) == level:
                self._costs[quantity].append(cost)
                self._hows[quantity].append(how)
                self._use(quantity, level)

    def _push(self, cost, quantity, how):
        # One more than a run can have: the last raise of a way to the most is not made.
        if cost <= MOST_STEPS + 1:
            heappush(self._queue, (cost, len(self._ways)))
            self._ways.append((quantity, how))

    def _push_raises(self, context):
        plan = self._guide.plan
        for index, move in enumerate(self._program[plan.name_at(context[0])].moves):
            if move[0] == "raise":
                for mode in modes_in(move):
                    path = self._guide.way(context, move[1], mode)
                    if path is not None:
                        self._push(len(path) + 1, (context, plan.place_of(move[3], mode)), (index, mode))

    def _push_sum(self, rule, more, level):
        """Takes a rule with two quantities that make this level together, with the raise between them."""
        ones = self._costs[rule[1]]
        others = self._costs[rule[2]]
        found = [(ones[one] + others[level - 1 - one], one)
                 for one in range(max(0, level - len(others)), min(level, len(ones)))]
        if len(found) > 0:
            cost, one = min(found)
            self._push(more + cost, rule[0], (rule, one, level - 1 - one))

    def _use(self, quantity, level):
        cost = self._costs[quantity][level]
        for rule, more in self._users[quantity]:
            if len(self._costs[rule[0]]) == level:
                if rule[2] is None:
                    self._push(cost + more, rule[0], (rule, level, None))
                elif level == 0 and len(self._costs[rule[1]]) > 0 and len(self._costs[rule[2]]) > 0:
                    self._push(self._costs[rule[1]][0] + self._costs[rule[2]][0] + more, rule[0], (rule, 0, 0))
