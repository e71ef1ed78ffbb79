"""Meetings: the contexts that some contexts meet, and what is true of all of them."""

from answeredabove.base.programs import notes_of
from answeredabove.errors import TooMany
from answeredabove.know.plans import plan_of
from answeredabove.know.solvers import Solver

MOST_TABLES = 200
SHORT = 300
# A solver that has more cells is not kept.
MOST_CELLS = 20000
# More than the numbers of calls.
KEYS = 256


def cells_at(program, roots):
    """What is true of contexts, told as pairs (spot, mask of the table), that do not meet too many tables together."""
    solver = _kept_solver(program)
    try:
        cells = cells_of(solver, roots, False)
    except TooMany:
        _keep(program, solver)
        raise
    _keep(program, solver)
    return cells


def cells_apart(program, roots):
    """The same, by a solver that is asked for nothing else, and this solver. So what is made of the order in which it
    is told what is true, derivations above all, does not hang on other questions."""
    notes = notes_of(program)
    if notes.apart is None or notes.apart[0] != roots:
        solver = Solver(plan_of(program))
        if notes.solver is None:
            # What was told first stays as it is, so other questions may follow.
            notes.solver = solver
            cells_at(program, roots)
        else:
            cells_at(program, roots)
            cells_of(solver, roots, True)
        notes.apart = (roots, solver) if solver.size() <= MOST_CELLS else None
    else:
        solver = notes.apart[1]
    return solver, [solver.cell(spot, mask) for spot, mask in roots]


def cells_kept(program):
    """How many cells of a program are known; where they were too many to be kept, a number as great as any."""
    notes = notes_of(program)
    return MOST_CELLS if notes.solver is None else notes.solver.size()


def meeting_at(program, roots):
    """The contexts that some contexts meet together."""
    solver = _kept_solver(program)
    try:
        meeting = Meeting(solver, roots, MOST_TABLES)
    except TooMany:
        _keep(program, solver)
        raise
    _keep(program, solver)
    return meeting


def cells_of(solver, roots, fit):
    """What is true of contexts, as a solver finds it; `fit` tells whether it is known that there are not too many
    tables."""
    cells = [solver.cell(spot, mask) for spot, mask in roots]
    fit = fit or solver.plan.everything < MOST_TABLES or _meet_themselves(solver.plan, roots)
    if solver.wary or not solver.run(SHORT) or not fit:
        meeting = Meeting(solver, roots, MOST_TABLES)
        cells = [meeting.cell(spot, mask) for spot, mask in roots]
    return cells


def _meet_themselves(plan, roots):
    """Whether contexts meet nothing but themselves, as there are no calls."""
    for spot, _ in roots:
        if plan.has_calls(spot):
            return False
    return True


def own_roots(program):
    """The contexts of the main procedure, each start, and the empty table."""
    plan = plan_of(program)
    return [(plan.spot_of(program.main, mode), 0) for mode in program.starts]


def _kept_solver(program):
    """A solver that may have learned something for other questions. That makes no difference to what is true of
    contexts, but it does to the order in which it was told: what hangs on that is asked of a solver of its own."""
    notes = notes_of(program)
    return Solver(plan_of(program)) if notes.solver is None else notes.solver


def _keep(program, solver):
    fits = solver.size() <= MOST_CELLS and (solver.wary or solver.is_done())
    notes = notes_of(program)
    notes.solver = solver if fits else None


class Meeting:
    """The contexts that some contexts, told as pairs (spot, mask of the table), meet together.

    A call is followed only under its whole inner table, so nothing is found that is not met; and there may be so many
    different tables at most. `tables` has for the mask of each table the bits of the spots that are met under it, and
    `callers` the contexts of procedures that have calls.
    """

    def __init__(self, solver, roots, most):
        self._solver = solver
        self._plan = solver.plan
        self._most = most
        self._lacking = {}
        self.callers = []
        self.tables = {}
        for spot, mask in roots:
            self._find(mask, 1 << spot)
            solver.cell(spot, mask)
        self._eager = not solver.wary and solver.run(SHORT)
        self._look()
        if not self._eager and not solver.wary:
            # There may be too many tables already, though not all is known of them.
            self._eager = solver.run_long()
            self._look()
        while solver.wary and self._learn_more():
            self._look()

    def cell(self, spot, mask):
        """What is known of a context that is met."""
        return self._solver.cell(spot, mask)

    def told(self):
        """The masks of the leaves and of the escapes of all contexts that are met, by pairs (spot, mask)."""
        found = {}
        for _, spot, mask in self.ordered():
            cell = self._solver.cell(spot, mask)
            found[(spot, mask)] = (cell.left, cell.escaped)
        return found

    def calls_in(self, spot, mask):
        """The calls that are made in a context that is met, in order: triples (call, mode, mask of the inner table)."""
        links = self.cell(spot, mask).links
        found = []
        for number in sorted(links):
            call = links[number].call
            key = (mask & call.around) * KEYS + number
            inner = mask & call.kept | (self._solver.added[key] if call.spots > 0 else 0)
            found.extend([(call, mode, inner) for mode in sorted(links[number].within)])
        return found

    def ordered(self):
        """The contexts that are met, each as it is told outside, its spot and the mask of its table, ascending."""
        plan = self._plan
        tables = sorted([(plan.table_of(mask), mask) for mask in self.tables])
        names = sorted([(name, place) for place, name in enumerate(plan.order)])
        spots = [(name, mode, place * plan.width + mode) for name, place in names for mode in range(plan.width)]
        return [
            ((name, mode, table), spot, mask)
            for name, mode, spot in spots
            for table, mask in tables
            if (self.tables[mask] >> spot) & 1 == 1
        ]

    def _find(self, mask, spots):
        """Takes spots under a table in; those of procedures that have calls are to be followed."""
        known = self.tables.get(mask, 0)
        if known == 0 and len(self.tables) >= self._most:
            raise TooMany(self._most)
        self.tables[mask] = known | spots
        new = spots & ~known & self._plan.calling
        while new > 0:
            spot = new.bit_length() - 1
            new ^= 1 << spot
            self.callers.append((spot, mask))

    def _look(self):
        """Follows all calls that are surely made under inner tables that are surely whole."""
        self._lacking = {}
        at = 0
        while at < len(self.callers):
            spot, mask = self.callers[at]
            cell = self._solver.cell(spot, mask)
            if cell.waiting:
                self._learn_on()
            self._follow(cell, mask)
            at += 1

    def _follow(self, cell, mask):
        """Follows the calls to which a cell comes, for a context with this table."""
        added = self._solver.added
        spots = 0
        for link in list(cell.links.values()):
            call = link.call
            spots |= call.spots
            more = 0
            if call.spots > 0:
                key = (mask & call.around) * KEYS + call.number
                more = added[key] if key in added else self._added(call, mask, key)
            if more is not None:
                inner = mask & call.kept | more
                if link.spots & ~self.tables.get(inner, 0) > 0:
                    self._find(inner, link.spots)
        if spots & ~self.tables[mask] > 0:
            self._find(mask, spots)

    def _learn_on(self):
        """Learns all that is not known yet, unless that takes too long."""
        if self._eager:
            self._eager = self._solver.run_long()

    def _added(self, call, mask, key):
        """What the answers of a call add to its inner table, or None if something on which this rests is not sure."""
        added = 0
        whole = True
        width = self._plan.width
        for by, _, shift, resumes, _ in call.replies:
            for spot in range(by, by + width):
                cell = self._solver.cell(spot, mask)
                if cell.waiting:
                    self._learn_on()
                added |= (cell.left & resumes) << shift
                shift += width
                if not self._eager and not self._solver.is_settled(cell):
                    self._lacking[cell.number] = cell
                    whole = False
        if not whole:
            return None
        self._solver.added[key] = added
        return added

    def _learn_more(self):
        """Learns what is most pressing, as a wary solver: first that on which inner tables rest, and of the least rank;
        whether there was something to learn."""
        pressing = list(self._lacking.values())
        if len(pressing) == 0:
            cells = [self._solver.cell(spot, mask) for spot, mask in self.callers]
            pressing = [cell for cell in cells if not cell.sure]
            if len(pressing) == 0:
                pressing = [cell for cell in cells if cell.waiting]
                for cell in pressing:
                    self._solver.touch(cell)
                return len(pressing) > 0
        ranks = [self._plan.ranks[cell.spot // self._plan.width] for cell in pressing]
        for cell, rank in zip(pressing, ranks):
            if rank == min(ranks):
                self._solver.solve(cell)
        return True
