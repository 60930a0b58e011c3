"""Sentences: read from a text, shown as a text, and the names in them."""

from wontbook.errors import NoSentence, TooLong

MOST_SIGNS = 120
MOST_LETTERS = 12
LETTERS = "abcdefghijklmnopqrstuvwxyz"
KEPT_WORDS = ("always", "where", "usually", "not", "and", "or")

# The blanks belong to the pieces, so that a blank anywhere else is no piece.
PIECES = ("(", ")", " and ", " or ", "not ")

# Which joints take hold of a sentence ahead of the token that stands behind it.
JOINTS = ("not", "and", "or")
TIGHTER = {"and": ("not", "and"), "or": ("not", "and", "or"), ")": ("not", "and", "or")}

TIGHTNESS = {"or": 0, "and": 1, "not": 2, "is": 3}


def read_sentence(text, row=0):
    if len(text) > MOST_SIGNS:
        raise TooLong(row)
    tokens = tokens_of(text)
    sentence = None if tokens is None else put_together(tokens)
    if sentence is None:
        raise NoSentence(row)
    return sentence


def tokens_of(text):
    # None where some of the text is no piece.
    tokens = []
    place = 0
    while place < len(text):
        piece = piece_at(text, place)
        if piece is None:
            return None
        tokens.append(piece.strip(" "))
        place += len(piece)
    return tokens


def piece_at(text, place):
    for piece in PIECES:
        if text.startswith(piece, place):
            return piece
    word = text[place:word_end(text, place)]
    return word if is_name(word) else None


def word_end(text, place):
    while place < len(text) and text[place] in LETTERS:
        place += 1
    return place


def is_name(word):
    return 1 <= len(word) <= MOST_LETTERS and word not in KEPT_WORDS


def put_together(tokens):
    # A list of what is begun, and no recursion: brackets may lie deep.
    begun = []
    whole = None
    for token in tokens:
        stands_behind = token in TIGHTER
        if stands_behind == (whole is None):
            return None
        if stands_behind:
            whole = ended(begun, whole, TIGHTER[token])
        if token == ")":
            if not begun:
                return None
            begun.pop()
        elif stands_behind:
            begun.append((token, whole))
            whole = None
        elif token == "(" or token == "not":
            begun.append((token,))
        else:
            whole = ("is", token)
    if whole is None:
        return None
    whole = ended(begun, whole, JOINTS)
    return None if begun else whole


def ended(begun, whole, joints):
    # Each thing begun lacks just its last part; an open bracket is no joint.
    while begun and begun[-1][0] in joints:
        whole = begun.pop() + (whole,)
    return whole


def shown_sentence(sentence):
    return shown_part(sentence, 0)


def shown_part(sentence, least):
    # Several of a kind go together from the left, so the right side has to be tighter.
    kind = sentence[0]
    tightness = TIGHTNESS[kind]
    if kind == "is":
        text = sentence[1]
    elif kind == "not":
        text = "not " + shown_part(sentence[1], tightness)
    else:
        left = shown_part(sentence[1], tightness)
        right = shown_part(sentence[2], tightness + 1)
        text = f"{left} {kind} {right}"
    return text if tightness >= least else f"({text})"


def names_in(sentence):
    found = {}
    waiting = [sentence]
    while waiting:
        part = waiting.pop()
        if part[0] == "is":
            found[part[1]] = True
        else:
            waiting.extend(part[1:])
    return sorted(found)
