"""Asks: which side of an ask is the less odd one, and the least odd world on either side."""

from wontbook.ranks import fits, least
from wontbook.worlds import has, shown_world


class Answer:
    def __init__(self, word, one, other):
        self.word = word
        self.one = one
        self.other = other

    def called(self):
        return self.word

    def shown(self, names):
        return [self.word, shown_side(names, self.one), shown_side(names, self.other)]


class Usually(Answer):
    def __init__(self, one, other):
        Answer.__init__(self, "usually", one, other)


class Seldom(Answer):
    def __init__(self, one, other):
        Answer.__init__(self, "seldom", one, other)


class Even(Answer):
    def __init__(self, one, other):
        Answer.__init__(self, "open", one, other)


class Never(Answer):
    def __init__(self, one, other):
        Answer.__init__(self, "never", one, other)


def shown_side(names, world):
    return "-" if world is None else shown_world(names, world)


def asked(ranks, met, broken):
    one = least_odd(ranks, met)
    other = least_odd(ranks, broken)
    if fits(ranks, (met, broken)):
        return Usually(one, other)
    if fits(ranks, (broken, met)):
        return Seldom(one, other)
    # Neither side is below the other: both are there with ranks alike, or none is.
    if one is None:
        return Never(one, other)
    return Even(one, other)


def least_odd(ranks, mask):
    rank = least(ranks, mask)
    if rank is None:
        return None
    return [world for world, other in enumerate(ranks) if other == rank and has(mask, world)][0]
