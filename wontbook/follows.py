"""What follows: whether a further rule fits whatever ranking fits a frame."""

from wontbook.errors import Torn
from wontbook.levels import is_torn, needed
from wontbook.ranks import ranking


def follows(frame, met, broken):
    rules = list(range(len(frame[2])))
    if is_torn(frame, rules):
        raise Torn()
    if met == 0 and broken == 0:
        return ("never",)
    contrary = (frame[0], frame[1], frame[2] + ((broken, met),))
    ranks = ranking(contrary)
    if ranks is None:
        return ("follows", tuple(needed(contrary, rules, [len(rules)])))
    return ("free", ranks)
