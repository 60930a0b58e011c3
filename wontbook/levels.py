"""Levels: the round in which each rule of a frame goes out, and some rules that tear a frame."""

from wontbook.worlds import places


def let_by(frame, among, rule):
    rules = frame[2]
    left = rules[rule][0]
    for number in among:
        left = left & ~rules[number][1]
    return places(left)[0] if left else None


def levels(frame):
    told = [None] * len(frame[2])
    left = list(range(len(told)))
    level = 0
    gone = going_out(frame, left)
    while gone:
        for rule in gone:
            told[rule] = level
        left = [rule for rule in left if rule not in gone]
        level = level + 1
        gone = going_out(frame, left)
    return tuple(told)


def going_out(frame, left):
    return [rule for rule in left if let_by(frame, left, rule) is not None]


def is_torn(frame, among):
    # Of the frame with the rules of these numbers alone.
    rules = [frame[2][rule] for rule in among]
    return None in levels((frame[0], frame[1], tuple(rules)))


def core(frame):
    rules = list(range(len(frame[2])))
    if not is_torn(frame, rules):
        return None
    return tuple(needed(frame, rules, []))


def needed(frame, rules, besides):
    # Rules that are torn together with those besides, such that none of them can be left out.
    kept = rules
    # Going round once is enough: fewer rules are torn no sooner, so a rule once needed stays needed.
    for rule in rules:
        others = [other for other in kept if other != rule]
        if is_torn(frame, others + besides):
            kept = others
    return kept
