"""Counts: how many raises are open at once in runs of contexts.

A *quantity* is a pair (context by masks, at): with MOST for `at` the greatest depth of a situation of the context's
runs, with the bit of an escape the greatest depth of a situation ahead of this escape. A *rule* is a tuple
(head, first, second, way): the head is at least the first, or, if there is a second, at least the first, plus one, plus
the second. Its way is None, or the call and the mode in which it is made.
"""

MOST = -1


def bits_of(mask):
    """The bits of a mask, ascending."""
    return [at for at in range(mask.bit_length()) if (mask >> at) & 1 == 1]


def rules_within(width, told, context, made):
    """The rules for a context, where the masks of escapes of contexts are told, and the calls are made."""
    most = (context, MOST)
    found = [(most, (context, at), None, None) for at in bits_of(told[context][1])]
    for call, mode, inner in made:
        called = (call[1], mode, inner)
        way = (call[0], mode)
        found.append((most, (called, MOST), None, way))
        for at in bits_of(told[called][1]):
            answering = _answering(width, context, call, at)
            if answering is None:
                found.append(((context, at), (called, at), None, way))
            else:
                found.append((most, (called, at), (answering, MOST), way))
                for end in bits_of(told[answering][1]):
                    found.append(((context, end), (called, at), (answering, end), way))
    return found


def contexts_in(rules):
    """The contexts of which rules need quantities."""
    found = []
    for _, first, second, _ in rules:
        found.append(first[0])
        if second is not None:
            found.append(second[0])
    return found


def _answering(width, context, call, at):
    """The context of the procedure that answers an escape from a call, or None."""
    for by, first, _, _, _ in call[5]:
        if first <= at < first + width:
            return by, at - first, context[2]
    return None


class Counting:
    """The rules for some contexts and all that they need, and the least numbers with which the rules hold.

    `numbers` has the number of each quantity, or None where there is no greatest one.
    """

    def __init__(self, meeting, width, roots):
        told = {context: (walk.left, walk.escaped) for context, walk in meeting.walks.items()}
        self.rules = {}
        self.numbers = {}
        self.contexts = []
        seen = {}
        waiting = list(roots)
        while len(waiting) > 0:
            context = waiting.pop()
            if context not in seen:
                seen[context] = True
                self.contexts.append(context)
                rules = rules_within(width, told, context, meeting.walks[context].made)
                self._keep(context, told[context][1], rules)
                waiting.extend(contexts_in(rules))
        for parts in components(self.rules):
            self._number(parts)

    def _keep(self, context, escaped, rules):
        for at in [MOST] + bits_of(escaped):
            self.rules[(context, at)] = []
        for rule in rules:
            self.rules[rule[0]].append(rule)

    def _number(self, parts):
        """Numbers quantities that need one another, where all others that they need have their numbers."""
        within = {part: True for part in parts}
        best = 0
        for part in parts:
            for _, first, second, _ in self.rules[part]:
                around = [each for each in (first, second) if each is not None and each not in within]
                if second is not None and len(around) < 2:
                    # Once around, and there is one more.
                    best = None
                elif any([self.numbers[each] is None for each in around]):
                    best = None
                elif best is not None and len(around) > 0:
                    best = max(best, sum([self.numbers[each] for each in around]) + len(around) - 1)
        for part in parts:
            self.numbers[part] = best


def components(rules):
    """The quantities of rules, those that need one another together, and behind those that they need."""
    walked = Components(rules)
    for quantity in rules:
        walked.visit(quantity)
    return walked.found


class Components:
    """The strongly connected components of quantities, found by Tarjan's way with a stack of its own."""

    def __init__(self, rules):
        self._needs = {head: _needs_of(rules[head]) for head in rules}
        self._ages = {}
        self._lows = {}
        self._held = []
        self._done = {}
        self.found = []

    def visit(self, root):
        """Finds the components of what a quantity needs."""
        trail = [(root, 0)]
        while len(trail) > 0:
            here, at = trail.pop()
            if at == 0 and not self._begin(here):
                continue
            needs = self._needs[here]
            if at > 0:
                self._lows[here] = min(self._lows[here], self._low(needs[at - 1]))
            if at < len(needs):
                trail.append((here, at + 1))
                trail.append((needs[at], 0))
            elif self._lows[here] == self._ages[here]:
                self._cut(here)

    def _begin(self, here):
        if here in self._ages:
            return False
        self._ages[here] = len(self._ages)
        self._lows[here] = self._ages[here]
        self._held.append(here)
        return True

    def _low(self, need):
        # What is done already lies in a component of its own.
        return len(self._ages) if need in self._done else self._lows[need]

    def _cut(self, here):
        parts = []
        while len(parts) == 0 or parts[-1] != here:
            parts.append(self._held.pop())
            self._done[parts[-1]] = True
        self.found.append(parts)


def _needs_of(rules):
    found = {}
    for _, first, second, _ in rules:
        found[first] = True
        if second is not None:
            found[second] = True
    return list(found)
