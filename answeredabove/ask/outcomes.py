"""Outcomes: how the program's own runs can end in many worlds, in each of which other answers are left out."""

from answeredabove.base.programs import notes_of
from answeredabove.know.bounds import most_tables
from answeredabove.know.gatherings import Gathering
from answeredabove.know.meetings import MOST_TABLES, cells_at, cells_kept, own_roots
from answeredabove.know.plans import plan_of
from answeredabove.know.scenes import Pack
from answeredabove.know.worlds import Worlds

# If it is not enough to follow calls so many times, and so many times more for each world, it is as good to go through
# the worlds one after another.
MOST_FOLLOWED = 2000
MORE_FOLLOWED = 50
# So it is, too, if at least so many cells for each world are known of the program itself.
MANY_CELLS = 5


class Outcomes:
    """The outcomes of a program in so many worlds; none of them may meet too many tables. `within` has answers and the
    worlds in which they are not left out."""

    def __init__(self, program, many, within):
        self._pack = Pack(many)
        self._left = 0
        self._escaped = 0
        if not self._are_found_together(program, within):
            for world in range(many):
                self._find_alone(program, within, world)

    def same_as(self, world):
        """The worlds in which the outcome is the same as in this one."""
        same = self._pack.every
        for packed in (self._left, self._escaped):
            while packed > 0:
                same &= packed if (packed >> world) & 1 == 1 else ~packed
                packed >>= self._pack.many
        return same

    def all_answered(self):
        """The worlds in which nothing stays unanswered."""
        return self._pack.every & ~self._pack.folded(self._escaped)

    def _are_found_together(self, program, within):
        """Finds the outcomes in all worlds at once, unless that would take too long; whether they are found."""
        many = self._pack.many
        roots = own_roots(program)
        few = has_few_tables(program)
        # Too many tables of the program itself are found sooner in this way.
        cells_at(program, roots)
        if len(within) == 0 or has_many_cells(program, many):
            return False
        worlds = Worlds(plan_of(program), many, within, MOST_FOLLOWED + MORE_FOLLOWED * many)
        scenes = [worlds.scene(spot, mask) for spot, mask in roots]
        for scene in scenes:
            worlds.need(scene, self._pack.every)
        if not worlds.run() or not few and not Gathering(worlds, roots).whole:
            return False
        for scene in scenes:
            self._left |= scene.left
            self._escaped |= scene.escaped
        return True

    def _find_alone(self, program, within, world):
        """Finds the outcome in one world."""
        out = [answer for answer in within if (within[answer] >> world) & 1 == 0]
        fewer = program.without_answers(tuple(out)) if len(out) > 0 else program
        for cell in cells_at(fewer, own_roots(fewer)):
            self._left |= self._pack.spaced(cell.left) << world
            self._escaped |= self._pack.spaced(cell.escaped) << world


def outcomes_of(program, many, within):
    """The outcomes of a program in so many worlds; the last ones are kept."""
    notes = notes_of(program)
    key = (many, tuple(within.items()))
    if notes.outcomes is None or notes.outcomes[0] != key:
        notes.outcomes = (key, Outcomes(program, many, within))
    return notes.outcomes[1]


def has_many_cells(program, many):
    """Whether so much is known of a program that so many worlds are better gone through one after another."""
    return cells_kept(program) >= MANY_CELLS * many


def has_few_tables(program):
    """Whether there are surely not too many tables, whatever answers are left out."""
    notes = notes_of(program)
    if notes.few_tables is None:
        plan = plan_of(program)
        # With this the plan knows of all that the main procedure comes to.
        own_roots(program)
        notes.few_tables = plan.everything < MOST_TABLES or most_tables(plan) <= MOST_TABLES
    return notes.few_tables
