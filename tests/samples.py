"""What several tests need: sentences and frames, and levels and rankings told once more in a plainer way."""

import itertools

ALL = (1 << 64) - 1
BIG = int("9" * 80)
PENGUINS = "always not penguin or bird\nwhere bird usually fly\nwhere penguin usually not fly"


def bits(mask):
    return {world for world in range(mask.bit_length() + 1) if mask // (1 << world) % 2 == 1}


def mask_of(worlds):
    return sum(1 << world for world in set(worlds))


def whole(value):
    """Whether a value is made of tuples, whole numbers (no truths) and None alone."""
    if isinstance(value, tuple):
        return all(whole(part) for part in value)
    return value is None or type(value) is int


def sentence_over(chance, names, deep):
    kind = chance.choice(["is", "not", "and", "or", "and", "or"]) if deep > 1 else "is"
    if kind == "is":
        return ("is", chance.choice(names))
    if kind == "not":
        return ("not", sentence_over(chance, names, deep - 1))
    return (kind, sentence_over(chance, names, deep - 1), sentence_over(chance, names, deep - 1))


def so(sentence, names_so):
    """Whether a sentence holds where just these names are so."""
    if sentence[0] == "is":
        return sentence[1] in names_so
    parts = [so(part, names_so) for part in sentence[1:]]
    return {"not": not parts[0], "and": all(parts), "or": any(parts)}[sentence[0]]


def rules_over(possible):
    """Every rule over a set of possible worlds."""
    inside = sorted(bits(possible))
    sides = itertools.product((0, 1, 2), repeat=len(inside))
    return [(mask_of(w for w, side in zip(inside, chosen) if side == 1),
             mask_of(w for w, side in zip(inside, chosen) if side == 2)) for chosen in sides]


def small_frames():
    """Every frame of one to three worlds with up to two rules."""
    for size in (1, 2, 3):
        for possible in range(1 << size):
            rules = rules_over(possible)
            for count in (0, 1, 2):
                for chosen in itertools.product(rules, repeat=count):
                    yield (size, possible, chosen)


def random_frame(chance, size, count, met=0.3, broken=0.2, absent=0.1):
    possible = mask_of(w for w in range(size) if chance.random() >= absent)
    rules = []
    for step in range(count):
        sides = {world: chance.random() for world in sorted(bits(possible))}
        rules.append((mask_of(w for w in sides if sides[w] < met),
                      mask_of(w for w in sides if met <= sides[w] < met + broken)))
    if rules and chance.random() < 0.2:
        rules[-1] = rules[0]
    return (size, possible, tuple(rules))


def chain(count):
    """Rules of which each is met where the one ahead of it is broken: as many levels as rules."""
    return (count + 1, (1 << count + 1) - 1, tuple((1 << k, 1 << k + 1) for k in range(count)))


def ring(count):
    """Rules in a ring: torn, and with any one of them left out no more."""
    return (count, (1 << count) - 1, tuple((1 << k, 1 << (k + 1) % count) for k in range(count)))


def backwards(frame):
    return (frame[0], frame[1], tuple(reversed(frame[2])))


def side_by_side(one, other):
    """One frame's worlds and rules, and behind them another's."""
    moved = tuple((met << one[0], broken << one[0]) for met, broken in other[2])
    return (one[0] + other[0], one[1] | other[1] << one[0], one[2] + moved)


def alone(frame, numbers):
    return (frame[0], frame[1], tuple(frame[2][number] for number in numbers))


def expected_levels(frame):
    """Point 12 told once more, with sets of worlds."""
    rules = [(bits(met), bits(broken)) for met, broken in frame[2]]
    told = {}
    for level in range(len(rules) + 1):
        left = [number for number in range(len(rules)) if number not in told]
        odd = set().union(*[rules[number][1] for number in left])
        told.update({number: level for number in left if rules[number][0] - odd})
    return tuple(told.get(number) for number in range(len(rules)))


def expected_ranks(frame):
    """Point 15 told once more; None for a torn frame."""
    found = expected_levels(frame)
    if None in found:
        return None
    broken = [[found[k] for k, rule in enumerate(frame[2]) if world in bits(rule[1])] for world in range(frame[0])]
    return tuple(max(broken[w], default=-1) + 1 if w in bits(frame[1]) else None for w in range(frame[0]))


def random_ranks(chance, size, possible, most):
    return tuple(chance.randint(0, most) if world in bits(possible) else None for world in range(size))


def rankings(size, possible, most):
    """Every ranking with ranks of at most `most`."""
    return itertools.product(*[range(most + 1) if world in bits(possible) else (None,) for world in range(size)])


def fits_rule(ranks, met, broken):
    """Point 14 told once more: some met world stands below every broken one."""
    return any(all(ranks[one] < ranks[other] for other in bits(broken)) for one in bits(met))


def expected_answer(ranks, met, broken):
    """Point 16 told once more: the word, the one world and the other, of the worlds put in a row."""
    row = sorted((rank, world) for world, rank in enumerate(ranks) if rank is not None)
    ones = [(rank, world) for rank, world in row if world in bits(met)] or [(None, None)]
    others = [(rank, world) for rank, world in row if world in bits(broken)] or [(None, None)]
    low, high = ones[0][0], others[0][0]
    if low is None:
        word = "never" if high is None else "seldom"
    elif high is None:
        word = "usually"
    else:
        word = "usually" if low < high else "seldom" if high < low else "open"
    return word, ones[0][1], others[0][1]


def expected_misfit(frame, ranks):
    for number, (met, broken) in enumerate(frame[2]):
        if not fits_rule(ranks, met, broken):
            return number
    return None


def has_fitting(frame):
    """Whether some ranking fits. Fitting hangs on which ranks are less alone, so ranks below the size are enough."""
    return any(expected_misfit(frame, ranks) is None for ranks in rankings(frame[0], frame[1], frame[0] - 1))


def sides(ranks, news):
    """The ranked worlds in the news and those not in it."""
    ranked = [world for world, rank in enumerate(ranks) if rank is not None]
    return ([world for world in ranked if world in bits(news)], [world for world in ranked if world not in bits(news)])


def lowest(ranks, some):
    return min(ranks[world] for world in some)


def expected_firmness(ranks, news):
    """Point 22 told once more."""
    inside, outside = sides(ranks, news)
    return lowest(ranks, outside) - lowest(ranks, inside) if inside and outside else None


def expected_believed(ranks, news):
    ranked = [rank for rank in ranks if rank is not None]
    return all(world in bits(news) for world, rank in enumerate(ranks) if ranked and rank == min(ranked))


def expected_shifted(ranks, news, firm):
    """Point 21 told once more; None where the news is refused."""
    inside, outside = sides(ranks, news)
    if not inside or not outside:
        return None
    told = [None] * len(ranks)
    for world in inside:
        told[world] = ranks[world] - lowest(ranks, inside)
    for world in outside:
        told[world] = ranks[world] - lowest(ranks, outside) + firm
    return tuple(told)
