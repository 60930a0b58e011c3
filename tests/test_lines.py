"""Point 26: which lines a desk refuses, and which refusal comes first."""

import itertools
import random
import unittest

from plain_desk import Case, PlainDesk
from wontbook.desk import Desk
from wontbook.errors import NoAsk, NoName, NoNews, NoRow, NoSentence, NotTold, TooLong, Torn

LONG = "a" * 121
GOOD = "where a usually b\nwhere b usually c\nalways c or not c"
TORN = "where a usually b\nwhere a usually not b"
EMPTY = "always a and not a"


def lines_with(text):
    """The lines with a sentence, each with this one in each of its places."""
    return [f"believe {text}", f"hear 0 {text}", f"hear {'9' * 60} {text}", f"ask where {text} usually b",
            f"ask where a usually {text}", f"follows where {text} usually b", f"follows where a usually {text}",
            f"ask where {text} usually {text}"]


class Kept(Case):
    def untouched(self, kind, row, line, text=GOOD):
        """Refused ahead of news and behind it, by a desk that is as it was then."""
        desk, plain = Desk(text), PlainDesk(text)
        self.refused(kind, row, desk.ask, line)
        self.alike(desk, plain)
        if text == GOOD:
            self.agree(desk, plain, "hear 7 a and not b")
            if line != "forget":
                self.refused(kind, row, desk.ask, line)
            self.alike(desk, plain)
            self.agree(desk, plain, "forget")
            self.alike(desk, plain)


class NoLines(Kept):
    def test_what_is_no_line(self):
        for line in ("", " ", "  ", "\n", "a", "where a usually b", "always a", "none", "Ranks", "RANKS", "rank",
                     "ranks ", " ranks", "ranks\n", "\nranks", "ranks a", "torn ", " torn", "torn\n", "torn a",
                     "book ", "book\n", "book a", " book", "forget ", "forget\n", "forget 1", "forgets", " forget",
                     "torn torn", "(ranks)", "hear", "hear ", "hear 1", "hear a", "hear a 1", "hear a b", "hears 1 a",
                     "Hear 1 a", " hear 1 a", "hear1 a", "hear 1\na", "hear\n1 a", "hear  1 a", "believe",
                     "believes a", "believea", "believe\na", " believe a", "Believe a", "believe(a)", "tell", "drop",
                     "tell\n", "drop\n", "tell\nalways a", " tell ",
                     "tells always a", "dropalways a", " drop always a", "Tell always a", "ask", "ask ", "asks",
                     "follows", "follows ", "~", "!", "ranks; book", "help"):
            self.untouched(NoAsk, None, line)

    def test_where_and_just_one_usually(self):
        for word in ("ask", "follows"):
            for behind in ("where", "where ", "where a", "where a b", "where usually", "where usually b",
                           "where a usually", "where usually a usually", "where a usually b usually c",
                           "where a usually usually b", "where usually usually a", "where a usually b usually",
                           "where usually a usually b", "always a", "always a usually b", "a usually b",
                           "where(a) usually b", "where a usually(b)", "a",
                           " where a usually b", "Where a usually b", "where a Usually b", "wherea usually b",
                           "where a usuallyb", "usually b", "where a\nusually b", "where\na usually b",
                           "where a usually\nb", "\nwhere a usually b", "where\n usually b",
                           "where a\nusually\nb", "where a) usually", f"where {LONG}", "where zebra"):
                self.untouched(NoAsk, None, f"{word} {behind}")
            for line in (f"{word}where a usually b", f"{word}\nwhere a usually b", f" {word} where a usually b",
                         f"{word}  where a usually b", f"{word}s where a usually b",
                         f"{word} {word} where a usually b"):
                self.untouched(NoAsk, None, line)

    def test_without_the_blank_ahead_of_the_sentence(self):
        for line in ("believe", "hear 1", "ask where a usually", "follows where a usually", "ask where usually b",
                     "ask where", "tell", "drop"):
            self.untouched(NoAsk, None, line)


class Sentences(Kept):
    def test_the_empty_sentence(self):
        for line in lines_with(""):
            self.untouched(NoSentence, 0, line)

    def test_blanks_too_many(self):
        for text in (" ", "  ", " a", "a ", "a  and b", "not  a", " " * 120):
            for line in lines_with(text):
                self.untouched(NoSentence, 0, line)

    def test_line_feeds(self):
        for text in ("\n", "a\n", "\na", "a\nand b", "a and\nb", "a \n", "\n a", "usually\n", "a usually\nb"):
            for line in lines_with(text):
                self.untouched(NoSentence, 0, line)

    def test_what_is_no_sentence(self):
        for text in ("a)", "(a", "not", "and", "always", "where", "always a", "where a", "A", "a1", "a b", "a or",
                     "thirteenlette", "-", "1", "a,b", "ranks ranks"):
            for line in lines_with(text):
                self.untouched(NoSentence, 0, line)

    def test_usually_within_one_sentence(self):
        for text in ("usually", "a usually b"):
            for line in (f"believe {text}", f"hear 1 {text}"):
                self.untouched(NoSentence, 0, line)
        self.untouched(NoSentence, 0, "ask where (usually) usually b")
        self.untouched(NoSentence, 0, "ask where a usually not(usually)")

    def test_too_long(self):
        for text in (LONG, " " * 121, "a" * 120 + "\n", "(" * 121, "b" * 5000):
            for line in lines_with(text):
                self.untouched(TooLong, 0, line)
        for line in lines_with("(" * 59 + "bb" + ")" * 59):
            self.untouched(NoName, None, line)
        desk = Desk(GOOD)
        for line in lines_with("not " * 30):
            self.refused(NoSentence, 0, desk.ask, line)
        self.assertEqual(desk.ask("believe " + "(" * 59 + "a" + ")" * 59), ["no"])

    def test_from_the_left(self):
        for word in ("ask", "follows"):
            for good in ("a", "zebra"):
                self.untouched(TooLong, 0, f"{word} where {LONG} usually {good}")
                self.untouched(TooLong, 0, f"{word} where {good} usually {LONG}")
                self.untouched(NoSentence, 0, f"{word} where {good} usually a)")
                self.untouched(NoSentence, 0, f"{word} where a) usually {good}")
            self.untouched(TooLong, 0, f"{word} where {LONG} usually a)")
            self.untouched(NoSentence, 0, f"{word} where a) usually {LONG}")

    def test_row_nought_however_many_rows_are_kept(self):
        for text in ("", GOOD, TORN, EMPTY):
            self.refused(NoSentence, 0, Desk(text).ask, "believe a)")
            self.refused(TooLong, 0, Desk(text).ask, "hear 1 " + LONG)
            self.refused(NoSentence, 0, Desk(text).ask, "ask where a usually ")


class Names(Kept):
    def test_a_name_that_the_book_does_not_have(self):
        for text in ("zebra", "d", "aa", "not d", "a and d", "d or not d", "a or (b or (c or d))", "ask", "ranks",
                     "hear"):
            for line in lines_with(text):
                self.untouched(NoName, None, line)

    def test_a_book_without_rows(self):
        desk = Desk()
        for line in lines_with("a"):
            self.refused(NoName, None, desk.ask, line)
        self.assertEqual(desk.ask("ranks"), ["{} 0"])
        self.refused(NoNews, None, desk.ask, "forget")

    def test_names_that_went_and_came(self):
        desk = Desk(GOOD)
        self.refused(NoName, None, desk.ask, "believe d")
        desk.ask("tell always d or not d")
        self.assertEqual(desk.ask("believe d"), ["no"])
        desk.ask("drop always d or not d")
        self.refused(NoName, None, desk.ask, "believe d")


class TornDesks(Kept):
    def test_which_lines_are_answered(self):
        for line in ("ranks", "forget", "believe a", "hear 0 a", "hear 12 not b", "ask where a usually b",
                     "follows where a usually b", "follows where a and not a usually b",
                     "ask where a and not a usually b"):
            self.untouched(Torn, None, line, TORN)
            self.untouched(Torn, None, line, EMPTY + "\nwhere a usually b\nwhere b usually a")
        desk = Desk(TORN)
        self.assertEqual(desk.ask("torn"), TORN.split("\n"))
        self.assertEqual(desk.ask("book"), TORN.split("\n"))
        self.assertEqual(desk.ask("tell always zebra"), [])
        self.assertEqual(desk.ask("drop always zebra"), [])
        self.refused(Torn, None, desk.ask, "ranks")
        self.assertEqual(desk.ask("drop where a usually b"), [])
        self.assertEqual(desk.ask("ranks"), ["{} 0", "{a} 0", "{b} 0", "{a b} 1"])

    def test_tell_and_drop_are_refused_by_themselves(self):
        desk = Desk(TORN)
        self.refused(NoRow, 2, desk.ask, "tell ")
        self.refused(NoRow, 2, desk.ask, "tell nor")
        self.refused(NoSentence, 2, desk.ask, "tell always a)")
        self.refused(TooLong, 2, desk.ask, "tell always " + LONG)
        self.refused(NotTold, None, desk.ask, "drop ")
        self.refused(NotTold, None, desk.ask, "drop always a)")
        self.refused(NotTold, None, desk.ask, "drop always a")
        self.refused(NoAsk, None, desk.ask, "tell")
        self.refused(NoAsk, None, desk.ask, "drop")


class NewsNotTaken(Kept):
    def test_where_nothing_else_is_due(self):
        self.untouched(NoNews, None, "forget")
        self.untouched(NoNews, None, "hear 1 a or not a")
        self.untouched(NoNews, None, "hear 0 a and not a")
        self.untouched(NoNews, None, "forget", "")
        self.untouched(NoNews, None, "forget", EMPTY)
        self.untouched(NoNews, None, "hear 1 a", EMPTY)


class Order(Kept):
    """For each two refusals that may be due at once, the one that comes first."""

    def test_no_line_ahead_of_all(self):
        for bad in ("a)", LONG, "", "zebra", "a and not a", "a or not a"):
            for text in (GOOD, TORN, EMPTY, ""):
                for line in (f"hear 01 {bad}", f"hear {bad} {bad}", f"believes {bad}", f"ask where usually {bad}",
                             f"ask where {bad} usually", f"ask where {bad} usually {bad} usually b",
                             f"ask always {bad}", f"follows where {bad}", f"follows  where {bad} usually {bad}"):
                    self.untouched(NoAsk, None, line, text)
        for text in (GOOD, TORN, EMPTY, ""):
            for line in ("forget ", "ranks ", "torn ", "hear 1", "forget\n", "believe"):
                self.untouched(NoAsk, None, line, text)

    def test_sentences_ahead_of_names_of_torn_and_of_news(self):
        for text in (GOOD, TORN, EMPTY, ""):
            for bad, kind in (("a)", NoSentence), ("", NoSentence), (LONG, TooLong), ("zebra)", NoSentence)):
                for line in lines_with(bad) + [f"ask where zebra usually {bad}", f"ask where {bad} usually zebra",
                                                          f"follows where zebra usually {bad}"]:
                    self.untouched(kind, 0, line, text)

    def test_names_ahead_of_torn_and_of_news(self):
        for text in (GOOD, TORN, EMPTY, ""):
            for line in lines_with("zebra") + ["hear 1 zebra or not zebra", "hear 1 zebra and not zebra",
                                                          "ask where zebra and not zebra usually zebra"]:
                self.untouched(NoName, None, line, text)

    def test_torn_ahead_of_news(self):
        for line in ("forget", "hear 1 a and not a", "hear 1 a or not a"):
            self.untouched(Torn, None, line, TORN)
        self.untouched(Torn, None, "hear 1 a", EMPTY + "\nwhere a usually a")
        desk = Desk("where a usually b")
        desk.ask("hear 3 a and not b")
        desk.ask("tell where a usually not b")
        self.refused(Torn, None, desk.ask, "forget")


class Drawn(Case):
    PIECES = ["ask", "follows", "where", "usually", "believe", "hear", "tell", "drop", "ranks", "torn", "book",
              "forget", "always", "not a", "(b)", "zebra", "a)", "0", "1", "01", "", "\n", LONG, "a\n"]
    GOOD_ONES = ["a", "b"] * 12
    FRONTS = [[], ["ask", "where"], ["follows", "where"], ["ask", "where", "a", "usually"], ["believe"], ["hear", "1"],
              ["follows", "where", "b", "usually"], ["hear"], ["tell"], ["tell", "where", "a", "usually"], ["drop"],
              ["drop", "where", "a", "usually"]]

    def test_drawn_lines(self):
        chance = random.Random(91)
        seen = {}
        for text in (GOOD, TORN, EMPTY, ""):
            for step in range(1500):
                desk, plain = Desk(text), PlainDesk(text)
                count = chance.choice([0, 1, 1, 1, 2, 3, 4])
                words = chance.choice(self.FRONTS) + chance.choices(self.PIECES + self.GOOD_ONES, k=count)
                told = self.agree(desk, plain, " ".join(words))
                seen[told] = seen.get(told, 0) + 1
                if chance.random() < 0.1:
                    self.alike(desk, plain)
        for word in ("ask", "follows", "believe", "hear", "tell", "drop", "NoAsk", "NoSentence", "TooLong", "NoName",
                     "Torn", "NoNews", "NoRow", "NotTold", "Twice"):
            self.assertGreater(seen.get(word, 0), 2, (word, seen))

    def test_all_short_lines_of_some_words(self):
        for count in range(6):
            for words in itertools.product(["ask", "where", "usually", "a", ""], repeat=count):
                line = " ".join(words)
                self.agree(Desk("where a usually a"), PlainDesk("where a usually a"), line)


if __name__ == "__main__":
    unittest.main()
