"""Rankings: least ranks, whether a ranking fits a frame, and the least ranking that does."""

from wontbook.levels import levels
from wontbook.worlds import has


def least(ranks, mask):
    found = [rank for world, rank in enumerate(ranks) if rank is not None and has(mask, world)]
    return min(found, default=None)


def misfit(frame, ranks):
    for number, rule in enumerate(frame[2]):
        if not fits(ranks, rule):
            return number
    return None


def fits(ranks, rule):
    met = least(ranks, rule[0])
    broken = least(ranks, rule[1])
    if met is None:
        return False
    return broken is None or met < broken


def ranking(frame):
    told = levels(frame)
    if None in told:
        return None
    return tuple([rank_of(frame, told, world) for world in range(frame[0])])


def rank_of(frame, told, world):
    if not has(frame[1], world):
        return None
    broken = [level for level, rule in zip(told, frame[2]) if has(rule[1], world)]
    return max(broken) + 1 if broken else 0
