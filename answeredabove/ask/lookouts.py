"""Lookouts: the watched contexts of a program, and the answers that begin."""

from answeredabove.errors import TooMany
from answeredabove.know.guides import Guide
from answeredabove.know.masks import bits_of
from answeredabove.know.meetings import own_roots

MOST_WATCHED = 400


class Lookout:
    """The watched contexts of a program, told as (spot, mask of the table, watch), found from the starts on.

    `links` tells how each one was first come to: None for a start, or the link that leads to it. A link is a triple of
    a watched context, a call that is made there, as a Meeting tells it, and None, or the bit of the escape from this
    call that it answers. `begins` has for each answer and each mode in which it begins the links by which it begins.
    """

    def __init__(self, program):
        self.guide = Guide(program)
        self.links = {}
        self.begins = {}
        self._plan = self.guide.plan
        self._order = []
        for spot, mask in own_roots(program):
            self._add((spot, mask, ((),) * len(program.signals)), None)
        at = 0
        while at < len(self._order):
            self._follow(self._order[at])
            at += 1

    def all_watched(self):
        """The watched contexts as they are told outside, ascending."""
        return tuple(sorted([self._plan.unpacked(here[0], here[1]) + here[2:] for here in self._order]))

    def reach_of(self, here):
        """The states to which a watched context comes."""
        return self.guide.meeting.cell(here[0], here[1]).come

    def lefts(self, answer, raised):
        """The mask of the modes in which an answer that begins in a mode is left."""
        left = 0
        for here, (call, _, _), at in self.begins[answer][raised]:
            left |= self.guide.meeting.cell(call.answering(at, self._plan.width), here[1]).left
        return left

    def parts(self, link):
        """The parts of a run along the links up to this one."""
        found = []
        while link is not None:
            here, (call, mode, inner), at = link
            if at is not None:
                found.append(self.guide.escaping((call.base + mode, inner), at))
            found.append(self.guide.entering(here[:2], call.site[1], mode))
            link = self.links[here]
        return found[::-1]

    def start(self, link):
        """The start from which the links lead to this one."""
        while self.links[link[0]] is not None:
            link = self.links[link[0]]
        return self._plan.mode_at(link[0][0])

    def _add(self, here, link):
        if here not in self.links:
            self.links[here] = link
            self._order.append(here)
            if len(self._order) > MOST_WATCHED:
                raise TooMany(MOST_WATCHED)

    def _follow(self, here):
        for made in self.guide.meeting.calls_in(here[0], here[1]):
            call, mode, inner = made
            self._add((call.base + mode, inner, self._inner_watch(here[2], call)), (here, made, None))
            for at in bits_of(self.guide.meeting.cell(call.base + mode, inner).escaped):
                self._take_escape((here, made, at))

    def _take_escape(self, link):
        here, (call, _, _), at = link
        spot = call.answering(at, self._plan.width)
        if spot is not None:
            self._add((spot, here[1], here[2]), link)
            answer = call.site + (self._plan.words[at // self._plan.width],)
            self.begins.setdefault(answer, {}).setdefault(self._plan.mode_at(spot), []).append(link)

    def _inner_watch(self, watch, call):
        answered = [first // self._plan.width for _, first, _, _, _ in call.replies]
        return tuple([call.site if at in answered else each for at, each in enumerate(watch)])
