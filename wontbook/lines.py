"""The lines that a desk is asked by: their words, and what stands behind these."""

from wontbook.books import sentence_texts
from wontbook.errors import NoAsk
from wontbook.sentences import read_sentence

# Lines of one word; and, by what stands behind their word and a blank, the others.
BARE = ("ranks", "torn", "forget", "book")
OF_A_ROW = ("tell", "drop")
OF_A_RULE = ("ask", "follows")

MOST_FIGURES = 60
FIGURES = "0123456789"


def read_line(line):
    # The word, the text behind `tell` and `drop` or the number of `hear`, and the sentences.
    if line in BARE:
        return (line, None, [])
    cut = line.partition(" ")
    word = cut[0]
    if not cut[1]:
        raise NoAsk()
    if word in OF_A_ROW:
        return (word, cut[2], [])
    if word in OF_A_RULE:
        return (word, None, read_rule(cut[2]))
    if word == "believe":
        return (word, None, [read_sentence(cut[2])])
    if word == "hear":
        return read_news(cut[2])
    raise NoAsk()


def read_rule(text):
    texts = sentence_texts(text)
    # One text stands behind `always`, which makes no rule.
    if len(texts) < 2:
        raise NoAsk()
    return [read_sentence(texts[0]), read_sentence(texts[1])]


def read_news(text):
    cut = text.partition(" ")
    if not cut[1] or not is_number(cut[0]):
        raise NoAsk()
    return ("hear", int(cut[0]), [read_sentence(cut[2])])


def is_number(text):
    if not 1 <= len(text) <= MOST_FIGURES or any([sign not in FIGURES for sign in text]):
        return False
    return text == "0" or text[0] != "0"
