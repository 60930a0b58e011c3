"""Rows and books: read from a text and shown as a text."""

from wontbook.errors import NoRow, TooMany, Twice
from wontbook.sentences import names_in, read_sentence, shown_sentence

MOST_ROWS = 20
MOST_NAMES = 6


def read_row(line, row=0):
    texts = sentence_texts(line)
    if not texts or "\n" in line:
        raise NoRow(row)
    first = read_sentence(texts[0], row)
    if len(texts) == 1:
        return ("always", first)
    return ("usually", first, read_sentence(texts[1], row))


def sentence_texts(line):
    # One text of `always`, two of `where`, none where the words are no row's.
    words = line.split(" ")
    others = words[1:]
    if words[0] == "always" and others:
        return [" ".join(others)]
    if words[0] == "where" and others.count("usually") == 1:
        middle = others.index("usually")
        if 0 < middle < len(others) - 1:
            return [" ".join(others[:middle]), " ".join(others[middle + 1:])]
    return []


def shown_row(told):
    first = shown_sentence(told[1])
    if told[0] == "always":
        return f"always {first}"
    second = shown_sentence(told[2])
    return f"where {first} usually {second}"


def read_book(text):
    return book_of(rows_of(text))


def rows_of(text):
    rows = []
    # Cut at line feeds, the empty text would be one empty row.
    lines = text.split("\n") if text else []
    for line in lines:
        rows.append(further_row(rows, line))
    return rows


def further_row(rows, line):
    row = len(rows)
    told = read_row(line, row)
    if told in rows:
        raise Twice(row)
    if row >= MOST_ROWS or len(names_of(rows + [told])) > MOST_NAMES:
        raise TooMany(row)
    return told


def names_of(rows):
    found = {}
    for told in rows:
        for sentence in told[1:]:
            for name in names_in(sentence):
                found[name] = True
    return sorted(found)


def book_of(rows):
    firm = [told[1] for told in rows if told[0] == "always"]
    usual = [(told[1], told[2]) for told in rows if told[0] == "usually"]
    return (tuple(names_of(rows)), tuple(firm), tuple(usual))


def shown_book(book):
    firm = [shown_row(("always", sentence)) for sentence in book[1]]
    usual = [shown_row(("usually", first, second)) for first, second in book[2]]
    return "\n".join(firm + usual)
