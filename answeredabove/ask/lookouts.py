"""Lookouts: the watched contexts of a program, and the answers that begin."""

from answeredabove.errors import TooMany
from answeredabove.know.books import own_contexts
from answeredabove.know.guides import Guide

MOST_WATCHED = 400


class Lookout:
    """The watched contexts of a program, told by masks as (place, mode, mask, watch), found from the starts on.

    `links` tells how each one was first come to: None for a start, or the link that leads to it. A link is a triple of
    a watched context, a call that is made there, as a walk has it, and None, or the bit of the escape from this call
    that it answers. `begins` has for each answer and each mode in which it begins the links by which it begins.
    """

    def __init__(self, program):
        self.guide = Guide(program)
        self.links = {}
        self.begins = {}
        self._sites = program.calls
        self._signals = program.signals
        self._order = []
        for context in own_contexts(program):
            self._add(self.guide.solver.plan.packed(*context) + (((),) * len(program.signals),), None)
        at = 0
        while at < len(self._order):
            self._follow(self._order[at])
            at += 1

    def all_watched(self):
        """The watched contexts as they are told outside, ascending."""
        plan = self.guide.solver.plan
        return tuple(sorted([plan.unpacked(here[:3]) + here[3:] for here in self._order]))

    def walk(self, here):
        """The walk of a watched context."""
        return self.guide.meeting.walks[here[:3]]

    def site_of(self, made):
        """The site of a call that is made."""
        return self._sites[made[0][0]]

    def lefts(self, answer, raised):
        """The mask of the modes in which an answer that begins in a mode is left."""
        left = 0
        for here, (call, _, _), at in self.begins[answer][raised]:
            left |= self.guide.meeting.walks[self._answering(here, call, at)].left
        return left

    def parts(self, link):
        """The parts of a run along the links up to this one."""
        found = []
        while link is not None:
            here, (call, mode, inner), at = link
            if at is not None:
                found.append(self.guide.escaping((call[1], mode, inner), at))
            found.append(self.guide.entering(here[:3], self._sites[call[0]][1], mode))
            link = self.links[here]
        return found[::-1]

    def start(self, link):
        """The start from which the links lead to this one."""
        while self.links[link[0]] is not None:
            link = self.links[link[0]]
        return link[0][1]

    def _add(self, here, link):
        if here not in self.links:
            self.links[here] = link
            self._order.append(here)
            if len(self._order) > MOST_WATCHED:
                raise TooMany(MOST_WATCHED)

    def _follow(self, here):
        for made in self.walk(here).made:
            call, mode, inner = made
            self._add((call[1], mode, inner, self._inner_watch(here[3], made)), (here, made, None))
            escaped = self.guide.meeting.walks[(call[1], mode, inner)].escaped
            for at in range(escaped.bit_length()):
                if (escaped >> at) & 1 == 1:
                    self._take_escape((here, made, at))

    def _take_escape(self, link):
        here, made, at = link
        context = self._answering(here, made[0], at)
        if context is not None:
            self._add(context + (here[3],), link)
            answer = self.site_of(made) + (self._signals[at // self.guide.solver.plan.width],)
            self.begins.setdefault(answer, {}).setdefault(context[1], []).append(link)

    def _answering(self, here, call, at):
        """The context of the procedure that answers an escape from a call, or None."""
        width = self.guide.solver.plan.width
        for by, first, _, _, _ in call[5]:
            if first <= at < first + width:
                return by, at - first, here[2]
        return None

    def _inner_watch(self, watch, made):
        width = self.guide.solver.plan.width
        answered = [answer[1] // width for answer in made[0][5]]
        return tuple([self.site_of(made) if at in answered else each for at, each in enumerate(watch)])
