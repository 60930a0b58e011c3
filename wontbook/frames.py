"""Frames: how many worlds there are, which are possible, and the rules over them."""

from wontbook.worlds import worlds


def rule_of(names, possible, S, T):
    first = worlds(names, S) & possible
    second = worlds(names, T)
    return (first & second, first & ~second)


def frame_of(book):
    names = book[0]
    size = 1 << len(names)
    possible = (1 << size) - 1
    for sentence in book[1]:
        possible = possible & worlds(names, sentence)
    rules = [rule_of(names, possible, first, second) for first, second in book[2]]
    return (size, possible, tuple(rules))
