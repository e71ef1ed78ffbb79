"""Meetings: the contexts that some contexts meet, and what is true of all of them."""

from answeredabove.errors import TooMany
from answeredabove.know.walks import Walk

MOST_TABLES = 200


class Meeting:
    """The contexts that some contexts meet, together.

    A call is followed only under its whole inner table, so nothing is found that is not met. `walks` has the walk of
    each context, as a value.
    """

    def __init__(self, solver, contexts):
        self._solver = solver
        self._tables = {}
        self._lacks = {}
        self._needs = {}
        self.walks = {}
        solver.hasten(contexts)
        for context in contexts:
            self._find(context)
        self._look()
        unsure = self._most_pressing()
        while len(unsure) > 0:
            for context in unsure:
                solver.solve(context)
            self._look()
            unsure = self._most_pressing()

    def _find(self, context):
        if context not in self.walks:
            self.walks[context] = None
            self._tables[context[2]] = True
            if len(self._tables) > MOST_TABLES:
                raise TooMany(MOST_TABLES)

    def _look(self):
        """Walks all contexts found, again where more is sure now, until there is nothing new."""
        stale = self._stale()
        while len(stale) > 0:
            for context in stale:
                self._walk(context)
            stale = self._stale()

    def _stale(self):
        sure = self._solver.sure
        found = [context for context in self.walks if context not in self._needs]
        for context, needs in self._needs.items():
            if any([need in sure for need in needs]):
                found.append(context)
        return found

    def _walk(self, context):
        sure = self._solver.sure
        walk = Walk(self._solver.plan, self._solver.told, sure, None, context)
        self.walks[context] = walk
        self._needs[context] = [need for need in walk.needs if need not in sure]
        self._lacks[context] = list(walk.lacks)
        for need in walk.needs:
            self._find(need)

    def _most_pressing(self):
        """Contexts that are not sure: first those on which inner tables rest, and those of the least rank."""
        sure = self._solver.sure
        lacking = {need: True for needs in self._lacks.values() for need in needs}
        unsure = list(lacking)
        if len(unsure) == 0:
            unsure = [context for context in self.walks if context not in sure]
        ranks = self._solver.plan.ranks
        least = min([ranks[context[0]] for context in unsure], default=0)
        return [context for context in unsure if ranks[context[0]] == least]
