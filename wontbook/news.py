"""News: how firmly a ranking holds it, how it shifts the ranks, and a diary of what was heard."""

from wontbook.errors import NoNews
from wontbook.ranks import fits, least
from wontbook.worlds import has


def firmness(ranks, news):
    inside = least(ranks, news)
    outside = least(ranks, ~news)
    if inside is None or outside is None:
        return None
    return outside - inside


def believed(ranks, news):
    return least(ranks, ~news) is None or fits(ranks, (news, ~news))


def shifted(ranks, news, firm):
    if firmness(ranks, news) is None:
        raise NoNews()
    inside = least(ranks, news)
    outside = least(ranks, ~news) - firm
    return tuple([lowered(rank, inside if has(news, world) else outside) for world, rank in enumerate(ranks)])


def lowered(rank, by):
    return None if rank is None else rank - by


class Diary:
    def __init__(self, ranks):
        self.stages = [ranks]
        self.pairs = []

    def heard(self, news, firm):
        self.stages.append(shifted(self.now(), news, firm))
        self.pairs.append((news, firm))

    def forgot(self):
        if not self.pairs:
            raise NoNews()
        self.stages.pop()
        self.pairs.pop()

    def now(self):
        return self.stages[-1]

    def taken(self):
        return list(self.pairs)
