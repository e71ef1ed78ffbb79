"""Counts: how many raises are open at once in runs of contexts.

Contexts are told as pairs (spot, mask of the table). A *quantity* is a pair (context, at): with MOST for `at` the
greatest depth of a situation of the context's runs, with the bit of an escape the greatest depth of a situation ahead
of this escape. A *rule* is a tuple (head, first, second, way): the head is at least the first, or, if there is a
second, at least the first, plus one, plus the second. Its way is None, or the call and the mode in which it is made.
"""

from answeredabove.know.components import components
from answeredabove.know.masks import bits_of

MOST = -1


def rules_within(width, told, context, made):
    """The rules for a context, where the masks of leaves and escapes of contexts are told, and the calls are made."""
    most = (context, MOST)
    found = [(most, (context, at), None, None) for at in bits_of(told[context][1])]
    for call, mode, inner in made:
        called = (call.base + mode, inner)
        way = (call, mode)
        found.append((most, (called, MOST), None, way))
        for at in bits_of(told[called][1]):
            spot = call.answering(at, width)
            if spot is None:
                found.append(((context, at), (called, at), None, way))
            else:
                answering = (spot, context[1])
                found.append((most, (called, at), (answering, MOST), way))
                for end in bits_of(told[answering][1]):
                    found.append(((context, end), (called, at), (answering, end), way))
    return found


def contexts_in(rules):
    """The contexts of which rules need quantities."""
    found = []
    for _, first, second, _ in rules:
        found.append(first[0])
        if second is not None:
            found.append(second[0])
    return found


class Counting:
    """The rules for some contexts and all that they need, and the least numbers with which the rules hold.

    `numbers` has the number of each quantity, or None where there is no greatest one.
    """

    def __init__(self, meeting, width, roots):
        told = meeting.told()
        self.rules = {}
        self.numbers = {}
        self.contexts = []
        seen = {}
        waiting = list(roots)
        while len(waiting) > 0:
            context = waiting.pop()
            if context not in seen:
                seen[context] = True
                self.contexts.append(context)
                rules = rules_within(width, told, context, meeting.calls_in(context[0], context[1]))
                self._keep(context, told[context][1], rules)
                waiting.extend(contexts_in(rules))
        for parts in components({head: _needs_of(rules) for head, rules in self.rules.items()}):
            self._number(parts)

    def _keep(self, context, escaped, rules):
        for at in [MOST] + bits_of(escaped):
            self.rules[(context, at)] = []
        for rule in rules:
            self.rules[rule[0]].append(rule)

    def _number(self, parts):
        """Numbers quantities that need one another, where all others that they need have their numbers."""
        within = {part: True for part in parts}
        best = 0
        for part in parts:
            for _, first, second, _ in self.rules[part]:
                around = [each for each in (first, second) if each is not None and each not in within]
                if second is not None and len(around) < 2:
                    # Once around, and there is one more.
                    best = None
                elif any([self.numbers[each] is None for each in around]):
                    best = None
                elif best is not None and len(around) > 0:
                    best = max(best, sum([self.numbers[each] for each in around]) + len(around) - 1)
        for part in parts:
            self.numbers[part] = best


def _needs_of(rules):
    found = {}
    for _, first, second, _ in rules:
        found[first] = True
        if second is not None:
            found[second] = True
    return list(found)
