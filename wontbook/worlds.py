"""Worlds and sets of worlds: which are in a set, where a sentence holds, how a world is shown."""


def places(mask):
    return [world for world in range(mask.bit_length()) if has(mask, world)]


def has(mask, number):
    return (mask >> number) & 1 == 1


def holds(names, sentence, world):
    kind = sentence[0]
    if kind == "is":
        # A world is, as a number, just the set of the names that are so in it.
        return has(world, names.index(sentence[1]))
    if kind == "not":
        return not holds(names, sentence[1], world)
    if kind == "and":
        return holds(names, sentence[1], world) and holds(names, sentence[2], world)
    return holds(names, sentence[1], world) or holds(names, sentence[2], world)


def worlds(names, sentence):
    return sum([1 << world for world in range(1 << len(names)) if holds(names, sentence, world)])


def shown_world(names, world):
    so = [name for number, name in enumerate(names) if has(world, number)]
    return "{" + " ".join(so) + "}"
