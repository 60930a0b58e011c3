"""The desk: keeps rows, and answers lines about them."""

from wontbook.asks import asked
from wontbook.books import book_of, further_row, read_row, rows_of, shown_book, shown_row
from wontbook.errors import NoName, NotTold, RowError, Torn
from wontbook.follows import follows
from wontbook.frames import frame_of, rule_of
from wontbook.levels import core
from wontbook.lines import read_line
from wontbook.news import Diary, believed
from wontbook.ranks import ranking
from wontbook.sentences import names_in
from wontbook.worlds import shown_world, worlds


class Desk:
    def __init__(self, text=""):
        self.keep(rows_of(text))

    def keep(self, rows):
        self.rows = rows
        self.book = book_of(rows)
        self.frame = frame_of(self.book)
        ranks = ranking(self.frame)
        # A torn frame has no ranking for a diary to begin with.
        self.diary = None if ranks is None else Diary(ranks)

    def ask(self, line):
        told = read_line(line)
        word = told[0]
        if word == "tell":
            self.keep(self.rows + [further_row(self.rows, told[1])])
            return []
        if word == "drop":
            self.keep(rows_without(self.rows, told[1]))
            return []
        if word == "book":
            return shown_book(self.book).split("\n") if self.rows else []
        if word == "torn":
            return self.shown_rules(core(self.frame) or ())
        self.refuse_others(told[2])
        return self.answered(word, told[1], told[2])

    def refuse_others(self, sentences):
        for sentence in sentences:
            for name in names_in(sentence):
                if name not in self.book[0]:
                    raise NoName()
        if self.diary is None:
            raise Torn()

    def answered(self, word, number, sentences):
        if word == "ranks":
            return self.shown_ranks(self.diary.now())
        if word == "forget":
            self.diary.forgot()
            return []
        if len(sentences) == 2:
            return self.answered_rule(word, rule_of(self.book[0], self.frame[1], sentences[0], sentences[1]))
        news = worlds(self.book[0], sentences[0])
        if word == "hear":
            self.diary.heard(news, number)
            return []
        return ["yes" if believed(self.diary.now(), news) else "no"]

    def answered_rule(self, word, rule):
        if word == "ask":
            return asked(self.diary.now(), rule[0], rule[1]).shown(self.book[0])
        told = follows(self.frame, rule[0], rule[1])
        if told[0] == "follows":
            return ["follows"] + self.shown_rules(told[1])
        if told[0] == "free":
            return ["free"] + self.shown_ranks(told[1])
        return ["never"]

    def shown_rules(self, numbers):
        return [shown_row(("usually",) + self.book[2][number]) for number in numbers]

    def shown_ranks(self, ranks):
        rows = []
        for world, rank in enumerate(ranks):
            if rank is not None:
                shown = shown_world(self.book[0], world)
                rows.append(f"{shown} {rank}")
        return rows


def rows_without(rows, line):
    told = row_or_none(line)
    if told not in rows:
        raise NotTold()
    return [row for row in rows if row != told]


def row_or_none(line):
    try:
        return read_row(line)
    except RowError:
        return None
