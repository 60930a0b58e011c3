"""The desk told once more in a plainer way, and how a desk's answers are held against it."""

import re
import unittest

from samples import (alone, expected_answer, expected_believed, expected_levels, expected_misfit, expected_ranks,
                     expected_shifted, fits_rule, mask_of, so)
from wontbook.books import read_row, shown_row
from wontbook.errors import NoAsk, NoName, NoNews, NotTold, RowError, TooMany, Torn, Twice, WontError
from wontbook.sentences import names_in, read_sentence

FORMS = [r"(?s)(?P<word>ranks|torn|forget|book)", r"(?s)(?P<word>tell|drop) (?P<row>.*)",
         r"(?s)(?P<word>believe) (?P<first>.*)", r"(?s)(?P<word>hear) (?P<figures>0|[1-9][0-9]{0,59}) (?P<first>.*)",
         r"(?s)(?P<word>ask|follows) where (?P<first>.*?) usually (?P<second>.*)"]


def parts_of(line):
    """The parts of a line by their names; none where it is no line of a desk."""
    for form in FORMS:
        found = re.fullmatch(form, line)
        if found:
            parts = found.groupdict()
            pair = [parts["first"], parts["second"]] if "second" in parts else []
            return {} if any("usually" in text.split(" ") for text in pair) else parts
    return {}


class PlainDesk:
    def __init__(self, text=""):
        self.rows = []
        for line in text.split("\n") if text else []:
            self.rows.append(self.further(line))
        self.begin()

    def further(self, line):
        row = len(self.rows)
        told = read_row(line, row)
        if told in self.rows:
            raise Twice(row)
        if row == 20 or len(self.names_of(self.rows + [told])) > 6:
            raise TooMany(row)
        return told

    def names_of(self, rows):
        return sorted({name for told in rows for sentence in told[1:] for name in names_in(sentence)})

    def begin(self):
        self.names = self.names_of(self.rows)
        self.size = 2 ** len(self.names)
        firm = [told[1] for told in self.rows if told[0] == "always"]
        self.possible = [world for world in range(self.size) if all(self.holds(one, world) for one in firm)]
        self.usual = [told for told in self.rows if told[0] == "usually"]
        rules = tuple(self.rule(told[1], told[2]) for told in self.usual)
        self.frame = (self.size, mask_of(self.possible), rules)
        self.stages = [expected_ranks(self.frame)]

    def holds(self, sentence, world):
        return so(sentence, [name for number, name in enumerate(self.names) if world // 2 ** number % 2])

    def rule(self, first, second):
        inside = [world for world in self.possible if self.holds(first, world)]
        met = mask_of(world for world in inside if self.holds(second, world))
        return met, mask_of(inside) - met

    def shown(self, world):
        return "{" + " ".join(name for number, name in enumerate(self.names) if world // 2 ** number % 2) + "}"

    def shown_ranks(self, ranks):
        return [self.shown(world) + " " + str(ranks[world]) for world in self.possible]

    def answer(self, line):
        """A list of texts, or a function that tells by the texts whether they are right. Refuses in its turn."""
        parts = parts_of(line)
        if not parts:
            raise NoAsk()
        sentences = [read_sentence(parts[key]) for key in ("first", "second") if key in parts]
        if any(name not in self.names for sentence in sentences for name in names_in(sentence)):
            raise NoName()
        word = parts["word"]
        if self.stages[-1] is None and word not in ("torn", "book", "tell", "drop"):
            raise Torn()
        return getattr(self, "answer_" + word)(parts, sentences)

    def answer_ask(self, parts, sentences):
        word, one, other = expected_answer(self.stages[-1], *self.rule(*sentences))
        return [word] + ["-" if world is None else self.shown(world) for world in (one, other)]

    def answer_follows(self, parts, sentences):
        met, broken = self.rule(*sentences)
        return lambda texts: self.right_follows(texts, met, broken)

    def answer_ranks(self, parts, sentences):
        return self.shown_ranks(self.stages[-1])

    def answer_torn(self, parts, sentences):
        return self.right_torn

    def answer_hear(self, parts, sentences):
        news = mask_of(world for world in range(self.size) if self.holds(sentences[0], world))
        ranks = expected_shifted(self.stages[-1], news, int(parts["figures"]))
        if ranks is None:
            raise NoNews()
        self.stages.append(ranks)
        return []

    def answer_forget(self, parts, sentences):
        if len(self.stages) == 1:
            raise NoNews()
        self.stages.pop()
        return []

    def answer_believe(self, parts, sentences):
        news = mask_of(world for world in range(self.size) if self.holds(sentences[0], world))
        return ["yes" if expected_believed(self.stages[-1], news) else "no"]

    def answer_book(self, parts, sentences):
        firm = [told for told in self.rows if told[0] == "always"]
        return [shown_row(told) for told in firm + self.usual]

    def answer_tell(self, parts, sentences):
        self.rows.append(self.further(parts["row"]))
        self.begin()
        return []

    def answer_drop(self, parts, sentences):
        try:
            self.rows.remove(read_row(parts["row"]))
        except ValueError:
            raise NotTold() from None
        self.begin()
        return []

    def numbers(self, texts):
        """The numbers of the rules whose rows are told; none where they are not told rising, as they are shown."""
        shown = [shown_row(told) for told in self.usual]
        if any(text not in shown for text in texts):
            return None
        found = [shown.index(text) for text in texts]
        return found if found == sorted(set(found)) else None

    def is_torn(self, numbers, *more):
        size, possible, rules = alone(self.frame, numbers)
        return None in expected_levels((size, possible, rules + more))

    def right_torn(self, texts):
        found = self.numbers(texts)
        if found is None or self.stages[-1] is not None:
            return texts == []
        fewer = [[other for other in found if other != number] for number in found]
        return self.is_torn(found) and not any(self.is_torn(some) for some in fewer)

    def right_follows(self, texts, met, broken):
        numbers = range(len(self.usual))
        if met == 0 and broken == 0:
            return texts == ["never"]
        if self.is_torn(numbers, (broken, met)):
            found = self.numbers(texts[1:])
            if texts[0] != "follows" or found is None:
                return False
            fewer = [[other for other in found if other != number] for number in found]
            return self.is_torn(found, (broken, met)) and not any(self.is_torn(some, (broken, met)) for some in fewer)
        ranks = self.ranks_of(texts[1:])
        return (texts[0] == "free" and self.shown_ranks(ranks) == texts[1:]
                and expected_misfit(self.frame, ranks) is None and not fits_rule(ranks, met, broken))

    def ranks_of(self, texts):
        ranks = [None] * self.size
        for world, text in zip(self.possible, texts):
            ranks[world] = int(text.split(" ")[-1])
        return tuple(ranks)


class Case(unittest.TestCase):
    def refused(self, kind, row, call, *given):
        with self.assertRaises(WontError, msg=repr(given)) as caught:
            call(*given)
        self.assertIs(type(caught.exception), kind, given)
        if row is not None:
            self.assertEqual(caught.exception.row, row, given)
            self.assertIs(type(caught.exception.row), int)

    def agree(self, desk, plain, line):
        """A desk's answer or refusal, held against the plain one's; told is its word or its refusal's name."""
        try:
            right = plain.answer(line)
        except WontError as due:
            row = due.row if isinstance(due, RowError) else None
            self.refused(type(due), row, desk.ask, line)
            return type(due).__name__
        texts = desk.ask(line)
        self.assertIs(type(texts), list, line)
        self.assertTrue(all(type(text) is str for text in texts), line)
        if isinstance(right, list):
            self.assertEqual(texts, right, line)
        else:
            self.assertTrue(right(texts), (line, texts))
        return line.split(" ")[0]

    def alike(self, desk, plain):
        """The rows kept, whether they are torn, and the ranks."""
        for line in ("book", "torn", "ranks"):
            self.agree(desk, plain, line)
