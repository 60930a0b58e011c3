"""Points 2, 24 and 25: the desk and its ten lines."""

import inspect
import itertools
import random
import unittest

from plain_desk import Case, PlainDesk
from samples import PENGUINS, sentence_over
from wontbook.asks import asked
from wontbook.books import read_book, shown_row
from wontbook.desk import Desk
from wontbook.errors import NoAsk, NoNews, NoRow, NoSentence, NotTold, TooLong, TooMany, Torn, Twice
from wontbook.follows import follows
from wontbook.frames import frame_of, rule_of
from wontbook.news import Diary
from wontbook.ranks import ranking
from wontbook.sentences import read_sentence, shown_sentence
from wontbook.worlds import worlds

RANKS = ["{} 0", "{bird} 1", "{fly} 0", "{bird fly} 0", "{bird penguin} 1", "{bird fly penguin} 2"]
TORN = "where a usually b\nalways c or not c\nwhere c usually b\nwhere a usually not b"
TWENTY = ["always " + "not not " * k + "a" for k in range(14)] + [f"where a usually {'not ' * k}a" for k in range(6)]


class Begun(Case):
    def test_without_a_text(self):
        for desk in (Desk(), Desk(""), Desk(text="")):
            self.assertEqual(desk.ask("book"), [])
            self.assertEqual(desk.ask("ranks"), ["{} 0"])
            self.assertEqual(desk.ask("torn"), [])

    def test_with_a_text(self):
        for desk in (Desk(PENGUINS), Desk(text=PENGUINS)):
            self.assertEqual(desk.ask("book"), PENGUINS.split("\n"))
            self.assertEqual(desk.ask("ranks"), RANKS)

    def test_a_text_that_is_refused(self):
        self.refused(NoRow, 0, Desk, "nor")
        self.refused(NoRow, 1, Desk, "always a\n")
        self.refused(NoRow, 0, Desk, "\nalways a")
        self.refused(NoSentence, 1, Desk, "always a\nalways b)\nnor")
        self.refused(TooLong, 1, Desk, "always a\nalways " + "b" * 121)
        self.refused(Twice, 2, Desk, "always a\nalways b\nalways (a)")
        self.refused(TooMany, 20, Desk, "\n".join(TWENTY + ["always b"]))
        self.refused(TooMany, 1, Desk, "always a and b and c\nalways d and e and f and g")
        self.assertEqual(len(Desk("\n".join(TWENTY)).ask("book")), 20)

    def test_a_text_whose_rows_are_torn(self):
        desk = Desk(TORN)
        self.assertEqual(desk.ask("torn"), ["where a usually b", "where a usually not b"])
        self.refused(Torn, None, desk.ask, "ranks")

    def test_two_desks_are_apart(self):
        one, other = Desk(PENGUINS), Desk(PENGUINS)
        one.ask("hear 3 penguin")
        one.ask("tell where fly usually bird")
        self.assertEqual(other.ask("ranks"), RANKS)
        self.assertEqual(other.ask("book"), PENGUINS.split("\n"))
        other.ask("drop where bird usually fly")
        self.assertEqual(len(one.ask("book")), 4)
        self.assertEqual(Desk().ask("book"), [])


class Asks(Case):
    def test_the_four_answers(self):
        desk = Desk(PENGUINS)
        self.assertEqual(desk.ask("ask where bird usually fly"), ["usually", "{bird fly}", "{bird}"])
        self.assertEqual(desk.ask("ask where penguin usually fly"), ["seldom", "{bird fly penguin}", "{bird penguin}"])
        self.assertEqual(desk.ask("ask where not bird usually fly"), ["open", "{fly}", "{}"])
        self.assertEqual(desk.ask("ask where penguin and not bird usually fly"), ["never", "-", "-"])
        self.assertEqual(desk.ask("ask where penguin usually bird"), ["usually", "{bird penguin}", "-"])
        self.assertEqual(desk.ask("ask where penguin usually not bird"), ["seldom", "-", "{bird penguin}"])

    def test_by_the_ranks_of_the_diary(self):
        desk = Desk(PENGUINS)
        desk.ask("hear 1 penguin")
        self.assertEqual(desk.ask("ask where bird usually fly"), ["seldom", "{bird fly}", "{bird penguin}"])
        self.assertEqual(desk.ask("ask where bird usually penguin"), ["usually", "{bird penguin}", "{bird fly}"])
        desk.ask("hear 0 fly")
        self.assertEqual(desk.ask("ask where bird usually fly"), ["open", "{bird fly}", "{bird penguin}"])
        desk.ask("forget")
        desk.ask("forget")
        self.assertEqual(desk.ask("ask where bird usually fly"), ["usually", "{bird fly}", "{bird}"])

    def test_brackets_and_blanks_within_the_sentences(self):
        desk = Desk(PENGUINS)
        self.assertEqual(desk.ask("ask where ((bird)) and not (penguin) usually (not (not fly or penguin))"),
                         ["usually", "{bird fly}", "{bird}"])


class Following(Case):
    def test_never_follows_and_free(self):
        desk = Desk(PENGUINS)
        self.assertEqual(desk.ask("follows where penguin and not bird usually fly"), ["never"])
        self.assertEqual(desk.ask("follows where penguin usually bird"), ["follows"])
        self.assertEqual(desk.ask("follows where bird usually fly"), ["follows", "where bird usually fly"])
        self.assertEqual(desk.ask("follows where bird usually not penguin"),
                         ["follows", "where bird usually fly", "where penguin usually not fly"])
        free = desk.ask("follows where bird usually penguin")
        self.assertEqual(free[0], "free")
        self.assertEqual([text.split("}")[0] for text in free[1:]], [text.split("}")[0] for text in RANKS])

    def test_whatever_the_diary_heard(self):
        desk = Desk(PENGUINS)
        lines = [f"follows where {first} usually {second}" for first in ("bird", "penguin", "fly or bird", "not bird")
                 for second in ("fly", "not fly", "penguin", "not penguin", "bird")]
        before = [desk.ask(line) for line in lines]
        self.assertEqual({told[0] for told in before}, {"follows", "free"})
        for line in ("hear 3 penguin", "hear 0 fly", "hear 12 not bird", "forget"):
            desk.ask(line)
            self.assertEqual([desk.ask(line) for line in lines], before)

    def test_rows_of_the_part_as_a_book_shows_them(self):
        text = "where (b and a) usually (c)\nalways a or (not a)\nwhere ((a)) usually b\nalways (c or not c)"
        desk = Desk(text)
        self.assertEqual(desk.ask("follows where (a) and b usually (c)"), ["follows", "where b and a usually c"])
        self.assertEqual(desk.ask("follows where a usually b"), ["follows", "where a usually b"])
        self.assertEqual(desk.ask("follows where a usually c"),
                         ["follows", "where b and a usually c", "where a usually b"])

    def test_rows_of_both_sorts_in_any_order(self):
        rows = ["where x usually y", "always z or not z", "where y usually not x", "where z usually y",
                "always not (x and z)"]
        lines = [f"follows where {first} usually {second}" for first in ("x", "y", "z", "x or y", "y or z", "x or z")
                 for second in ("x", "y", "not x", "not y", "not x or y")]
        seen = set()
        for order in itertools.permutations(rows):
            desk, plain = Desk("\n".join(order)), PlainDesk("\n".join(order))
            for line in ["book", "torn", "ranks", "ask where x or y usually y"] + lines:
                self.agree(desk, plain, line)
            seen.update(tuple(desk.ask(line)) for line in lines)
        self.assertTrue({1, 2, 3} <= {len(told) for told in seen if told[0] == "follows"}, seen)


class Ranks(Case):
    def test_each_possible_world_by_number(self):
        self.assertEqual(Desk(PENGUINS).ask("ranks"), RANKS)
        self.assertEqual(Desk("always a").ask("ranks"), ["{a} 0"])
        self.assertEqual(Desk("where a usually b").ask("ranks"), ["{} 0", "{a} 1", "{b} 0", "{a b} 0"])

    def test_without_a_possible_world(self):
        desk = Desk("always a and not a")
        self.assertEqual(desk.ask("ranks"), [])
        self.assertEqual(desk.ask("torn"), [])
        self.assertEqual(desk.ask("ask where a usually a"), ["never", "-", "-"])
        self.assertEqual(desk.ask("follows where a usually a"), ["never"])
        self.assertEqual(desk.ask("believe a"), ["yes"])
        self.assertEqual(desk.ask("believe a and not a"), ["yes"])
        self.refused(NoNews, None, desk.ask, "hear 1 a")
        desk.ask("tell where a usually a")
        self.assertEqual(desk.ask("torn"), ["where a usually a"])

    def test_six_names_and_many_levels(self):
        rows = ["where a usually b", "where a and c usually not b", "where a and c and d usually b",
                "where a and c and d and e usually not b", "where a and c and d and e and f usually b"]
        desk, plain = Desk("\n".join(rows)), PlainDesk("\n".join(rows))
        told = desk.ask("ranks")
        self.assertEqual(len(told), 64)
        self.assertEqual(told[-1], "{a b c d e f} 4")
        self.assertEqual(told[0b111101], "{a c d e f} 5")
        self.alike(desk, plain)

    def test_ranks_of_many_figures(self):
        desk = Desk("where a usually b")
        firm = "9" * 60
        for step in range(50):
            desk.ask(f"hear {firm} a and b")
            desk.ask(f"hear {firm} a and not b")
        number = int(firm)
        self.assertEqual(desk.ask("ranks"), [f"{{}} {100 * number}", "{a} 0", f"{{b}} {100 * number}",
                                             f"{{a b}} {number}"])
        for step in range(100):
            desk.ask("forget")
        self.assertEqual(desk.ask("ranks"), ["{} 0", "{a} 1", "{b} 0", "{a b} 0"])
        self.refused(NoNews, None, desk.ask, "forget")


class TornRows(Case):
    def test_none_where_it_is_not_torn(self):
        for text in ("", "always a", PENGUINS, "always a and not a"):
            self.assertEqual(Desk(text).ask("torn"), [])

    def test_rows_of_a_core_in_their_order(self):
        for rows in itertools.permutations(TORN.split("\n") + ["where b and c usually a"]):
            desk = Desk("\n".join(rows))
            self.assertEqual(desk.ask("torn"), [row for row in rows if row.startswith("where a ")])

    def test_as_a_book_shows_them(self):
        desk = Desk("where (a) usually ((b))\nalways not (a) or b\nwhere a and (b) usually not (b)\n"
                    "where a usually (b or c)")
        self.assertEqual(desk.ask("torn"), ["where a and b usually not b"])
        desk = Desk("where (a) usually (b)\nwhere a usually not (b)")
        self.assertEqual(desk.ask("torn"), ["where a usually b", "where a usually not b"])

    def test_torn_by_what_is_always_so(self):
        self.assertEqual(Desk("where a usually b\nalways not a").ask("torn"), ["where a usually b"])


class Hearing(Case):
    def test_heard_and_forgotten(self):
        desk = Desk(PENGUINS)
        self.assertEqual(desk.ask("hear 3 penguin"), [])
        self.assertEqual(desk.ask("ranks"), ["{} 3", "{bird} 4", "{fly} 3", "{bird fly} 3", "{bird penguin} 0",
                                             "{bird fly penguin} 1"])
        self.assertEqual(desk.ask("hear 0 not (bird and fly)"), [])
        self.assertEqual(desk.ask("ranks"), ["{} 3", "{bird} 4", "{fly} 3", "{bird fly} 2", "{bird penguin} 0",
                                             "{bird fly penguin} 0"])
        self.assertEqual(desk.ask("forget"), [])
        self.assertEqual(desk.ask("ranks")[0], "{} 3")
        self.assertEqual(desk.ask("forget"), [])
        self.assertEqual(desk.ask("ranks"), RANKS)
        self.refused(NoNews, None, desk.ask, "forget")
        self.assertEqual(desk.ask("ranks"), RANKS)

    def test_figures(self):
        for figures in ("0", "1", "9", "10", "907", "1" + "0" * 59, "9" * 60):
            desk = Desk("always a or not a")
            self.assertEqual(desk.ask(f"hear {figures} a"), [])
            self.assertEqual(desk.ask("ranks"), ["{} " + figures, "{a} 0"])

    def test_figures_that_are_none(self):
        desk = Desk("always a or not a")
        for figures in ("00", "01", "007", "0" * 60, "1" + "0" * 60, "9" * 61, "0" * 61, "+1", "-1", "-0", "1+", "1.0",
                        "1e3", "", " ", "a", "1a", "0x1", "1_000", "1,000", "one", "1\n", "\n1", "\n", "(1)", "~"):
            for sentence in ("a", "", "b", "a)", "a" * 121):
                self.refused(NoAsk, None, desk.ask, f"hear {figures} {sentence}")
                self.assertEqual(desk.ask("ranks"), ["{} 0", "{a} 0"])
        for sign in [chr(number) for number in range(ord("!"), ord("~") + 1)] + ["\n"]:
            if sign not in "0123456789%":
                for figures in (sign, "1" + sign, sign + "1", "1" + sign + "1"):
                    self.refused(NoAsk, None, desk.ask, f"hear {figures} a")
        self.refused(NoNews, None, desk.ask, "forget")

    def test_news_not_to_be_taken(self):
        desk = Desk(PENGUINS)
        for sentence in ("bird or not bird", "bird and not bird", "penguin and not bird", "not penguin or bird"):
            self.refused(NoNews, None, desk.ask, f"hear 5 {sentence}")
            self.assertEqual(desk.ask("ranks"), RANKS)
        self.refused(NoNews, None, desk.ask, "forget")
        desk.ask("hear 5 penguin")
        before = desk.ask("ranks")
        self.refused(NoNews, None, desk.ask, "hear 1 not penguin or bird")
        self.assertEqual(desk.ask("ranks"), before)
        desk.ask("forget")
        self.assertEqual(desk.ask("ranks"), RANKS)


class Believing(Case):
    def test_yes_and_no(self):
        desk = Desk(PENGUINS)
        for sentence, told in (("not penguin", "yes"), ("penguin", "no"), ("bird", "no"), ("not bird", "no"),
                               ("not bird or fly", "yes"), ("bird or not bird", "yes"), ("bird and not bird", "no"),
                               ("penguin and not bird", "no"), ("not penguin or bird", "yes")):
            self.assertEqual(desk.ask(f"believe {sentence}"), [told], sentence)

    def test_by_the_diary(self):
        desk = Desk(PENGUINS)
        desk.ask("hear 1 penguin")
        self.assertEqual(desk.ask("believe penguin"), ["yes"])
        self.assertEqual(desk.ask("believe not fly"), ["yes"])
        desk.ask("hear 0 fly")
        self.assertEqual(desk.ask("believe fly"), ["no"])
        self.assertEqual(desk.ask("believe not fly"), ["no"])


class Books(Case):
    def test_as_a_book_shows_it(self):
        desk = Desk("where b usually (a)\nalways ((a) or b)\nwhere a usually b\nalways not (not a)")
        self.assertEqual(desk.ask("book"), ["always a or b", "always not not a", "where b usually a",
                                            "where a usually b"])

    def test_what_is_told_comes_behind_its_sort(self):
        desk = Desk("where b usually a\nalways a")
        self.assertEqual(desk.ask("tell where a usually c"), [])
        self.assertEqual(desk.ask("tell always (c)"), [])
        self.assertEqual(desk.ask("book"), ["always a", "always c", "where b usually a", "where a usually c"])

    def test_where_it_is_torn(self):
        self.assertEqual(Desk(TORN).ask("book"), ["always c or not c", "where a usually b", "where c usually b",
                                                  "where a usually not b"])

    def test_the_list_is_the_askers_own(self):
        for line in ("book", "ranks", "torn", "ask where a usually b", "follows where a usually b", "believe a"):
            desk = Desk("where a usually b\nwhere b usually a")
            before = desk.ask(line)
            first, second = desk.ask(line), desk.ask(line)
            self.assertIsNot(first, second)
            first.append("always x")
            first[0] = "no"
            second.clear()
            self.assertEqual(desk.ask(line), before)
        for line in ("hear 1 a", "tell always a", "drop where a usually b", "forget"):
            desk = Desk("where a usually b\nwhere b usually a")
            desk.ask("hear 1 not a")
            told = desk.ask(line)
            told.append("always x")
            self.assertEqual(desk.ask("believe a or not a"), ["yes"])
        desk = Desk("where a usually b")
        early = desk.ask("ranks"), desk.ask("book")
        desk.ask("hear 3 a and not b")
        desk.ask("tell always a")
        self.assertEqual(early, (["{} 0", "{a} 1", "{b} 0", "{a b} 0"], ["where a usually b"]))


class Telling(Case):
    def test_behind_the_rows_kept(self):
        desk = Desk()
        for count, row in enumerate(PENGUINS.split("\n")):
            self.assertEqual(desk.ask("tell " + row), [])
            self.assertEqual(desk.ask("book"), PENGUINS.split("\n")[:count + 1])
        self.assertEqual(desk.ask("ranks"), RANKS)

    def test_new_names(self):
        desk = Desk("always b or not b")
        desk.ask("tell where a usually c")
        self.assertEqual(desk.ask("ask where a usually c"), ["usually", "{a c}", "{a}"])
        self.assertEqual(len(desk.ask("ranks")), 8)

    def test_the_diary_begins_anew(self):
        desk = Desk(PENGUINS)
        desk.ask("hear 3 penguin")
        desk.ask("hear 4 fly")
        self.assertEqual(desk.ask("tell where bird usually bird"), [])
        self.assertEqual(desk.ask("ranks"), RANKS)
        self.refused(NoNews, None, desk.ask, "forget")

    def test_what_is_refused_changes_nothing(self):
        desk = Desk("always not a or b\nwhere b usually c")
        desk.ask("hear 2 a")
        before = desk.ask("book"), desk.ask("ranks")
        for row, kind in (("", NoRow), (" ", NoRow), ("nor", NoRow), ("always a\n", NoRow),
                          ("always a\nalways b", NoRow), ("\n", NoRow), ("\nalways a", NoRow),
                          ("where a usually", NoRow), ("tell always a", NoRow),
                          ("always " + "a" * 121, TooLong), ("always ", NoSentence), (" always a", NoRow),
                          ("where b usually c)", NoSentence), ("always a ", NoSentence),
                          ("where b usually (c)", Twice), ("always not (a) or b", Twice),
                          ("always a or b or c or d or e or f or g", TooMany)):
            self.refused(kind, 2, desk.ask, "tell " + row)
            self.assertEqual((desk.ask("book"), desk.ask("ranks")), before, row)
        desk.ask("forget")
        self.assertEqual(desk.ask("ranks"), Desk("\n".join(before[0])).ask("ranks"))

    def test_an_empty_row_for_a_book_without_rows(self):
        self.refused(NoRow, 0, Desk().ask, "tell ")
        self.refused(NoRow, 0, Desk().ask, "tell \n")

    def test_twenty_rows_and_one_more(self):
        desk = Desk("\n".join(TWENTY[:18]))
        for row in TWENTY[18:]:
            desk.ask("tell " + row)
        self.refused(TooMany, 20, desk.ask, "tell where a usually not a or a")
        self.refused(Twice, 20, desk.ask, "tell " + TWENTY[3])
        self.refused(NoSentence, 20, desk.ask, "tell always a)")
        self.refused(NoRow, 20, desk.ask, "tell ")
        self.assertEqual(len(desk.ask("book")), 20)
        desk.ask("drop " + TWENTY[0])
        self.assertEqual(desk.ask("tell where a usually not a or a"), [])
        self.refused(TooMany, 20, desk.ask, "tell " + TWENTY[0])

    def test_six_names_and_one_more(self):
        desk = Desk("always a or b or c\nalways d or e")
        self.refused(TooMany, 2, desk.ask, "tell where f usually g")
        self.assertEqual(desk.ask("tell where f usually a"), [])
        self.refused(TooMany, 3, desk.ask, "tell always g")
        desk.ask("drop always d or e")
        self.assertEqual(desk.ask("tell always g"), [])
        self.assertEqual(desk.ask("book"), ["always a or b or c", "always g", "where f usually a"])

    def test_a_row_that_tears(self):
        desk = Desk(PENGUINS)
        self.assertEqual(desk.ask("tell where penguin usually fly"), [])
        self.assertEqual(desk.ask("torn"), ["where penguin usually not fly", "where penguin usually fly"])
        self.assertEqual(desk.ask("tell where fly usually fly"), [])
        self.refused(Torn, None, desk.ask, "ranks")
        self.assertEqual(desk.ask("drop where penguin usually fly"), [])
        self.assertEqual(desk.ask("torn"), [])
        self.assertEqual(desk.ask("ranks"), RANKS)


class Dropping(Case):
    def test_a_row_in_other_brackets(self):
        desk = Desk("always a or b\nwhere a and b usually not c\nalways a")
        self.assertEqual(desk.ask("drop where ((a) and b) usually (not (c))"), [])
        self.assertEqual(desk.ask("book"), ["always a or b", "always a"])
        self.assertEqual(desk.ask("drop always (a)"), [])
        self.assertEqual(desk.ask("book"), ["always a or b"])
        self.assertEqual(desk.ask("drop always (a or b)"), [])
        self.assertEqual(desk.ask("book"), [])
        self.assertEqual(desk.ask("ranks"), ["{} 0"])

    def test_the_order_of_the_others_stays(self):
        desk = Desk("always a\nalways b\nalways c\nalways d")
        desk.ask("drop always b")
        desk.ask("tell always b")
        self.assertEqual(desk.ask("book"), ["always a", "always c", "always d", "always b"])

    def test_names_go_with_their_rows(self):
        desk = Desk("where a usually b\nwhere b usually c")
        desk.ask("drop where a usually b")
        self.assertEqual(desk.ask("ranks"), ["{} 0", "{b} 1", "{c} 0", "{b c} 0"])

    def test_the_diary_begins_anew(self):
        desk = Desk(PENGUINS + "\nwhere bird usually bird")
        desk.ask("hear 3 penguin")
        self.assertEqual(desk.ask("drop where bird usually bird"), [])
        self.assertEqual(desk.ask("ranks"), RANKS)
        self.refused(NoNews, None, desk.ask, "forget")

    def test_what_is_not_told(self):
        desk = Desk(PENGUINS)
        desk.ask("hear 3 penguin")
        before = desk.ask("book"), desk.ask("ranks")
        for row in ("", " ", "nor", "always bird", "where fly usually bird", "always bird or not penguin", "where bird",
                    "where bird usually fly ", "where bird usually fly\n", "\nwhere bird usually fly",
                    " where bird usually fly", "where bird usually  fly", "always " + "a" * 121, "always ", "always a)",
                    "where bird usually zebra", "where bird usually not not fly", PENGUINS,
                    "always not penguin or bird\n"):
            self.refused(NotTold, None, desk.ask, "drop " + row)
            self.assertEqual((desk.ask("book"), desk.ask("ranks")), before, row)
        desk.ask("forget")
        self.assertEqual(desk.ask("ranks"), RANKS)
        self.refused(NotTold, None, Desk().ask, "drop always a")
        self.refused(NotTold, None, Desk().ask, "drop ")

    def test_a_row_dropped_twice(self):
        desk = Desk(PENGUINS)
        desk.ask("drop where bird usually fly")
        self.refused(NotTold, None, desk.ask, "drop where bird usually fly")
        desk.ask("tell where bird usually fly")
        desk.ask("drop where bird usually fly")


class Together(Case):
    def test_put_together_of_the_functions(self):
        """The desk's answers by the functions of the interface, over one book."""
        book = read_book(PENGUINS)
        names, frame = book[0], frame_of(book)
        desk, diary = Desk(PENGUINS), Diary(ranking(frame))
        texts = ["bird", "fly", "penguin", "not bird", "bird and fly", "penguin or not fly", "not (bird or penguin)"]
        for step, heard in enumerate(texts):
            desk.ask(f"hear {step} {heard}")
            diary.heard(worlds(names, read_sentence(heard)), step)
            for first, second in itertools.product(texts, repeat=2):
                rule = rule_of(names, frame[1], read_sentence(first), read_sentence(second))
                self.assertEqual(desk.ask(f"ask where {first} usually {second}"),
                                 asked(diary.now(), *rule).shown(names))
                told = follows(frame, *rule)
                self.assertEqual(desk.ask(f"follows where {first} usually {second}")[0], told[0])


class Walks(Case):
    """Drawn lines, good and bad, asked of a desk and of a plain one."""

    def sentence(self, chance, names):
        names = names or ["a"]
        if chance.random() < 0.03:
            return chance.choice(["", " a", "a ", "a)", "not", "usually", "a\n", "a" * 121, "zebra"])
        text = shown_sentence(sentence_over(chance, names, chance.choice([1, 1, 2, 3])))
        return f"({text})" if chance.random() < 0.1 else text

    def row(self, chance, names):
        if chance.random() < 0.03:
            return chance.choice(["", "nor", "always", "where a usually", "always a\n", "where a usually b usually c"])
        if chance.random() < 0.15:
            return "always " + " or ".join(self.sentence(chance, names) for _ in range(3))
        return f"where {self.sentence(chance, names)} usually {self.sentence(chance, names)}"

    def line(self, chance, plain):
        names = plain.names
        word = chance.choice(["ask"] * 4 + ["follows"] * 3 + ["ranks", "torn", "book"] + ["hear"] * 4 + ["forget"] * 2
                             + ["believe"] * 2 + ["tell", "drop", "none"])
        if word in ("ask", "follows"):
            return f"{word} where {self.sentence(chance, names)} usually {self.sentence(chance, names)}"
        if word == "hear":
            figures = chance.choice(["0", "1", "2", "5", "60", "9" * 60, "00", "01", "9" * 61, "-1", ""])
            return f"hear {figures} {self.sentence(chance, names)}"
        if word == "believe":
            return "believe " + self.sentence(chance, names)
        if word == "tell":
            return "tell " + self.row(chance, chance.choice([names, ["a", "b", "c", "d", "e"]]))
        if word == "drop":
            kept = [shown_row(told) for told in plain.rows]
            return "drop " + chance.choice(kept + [self.row(chance, names)])
        if word == "none":
            return chance.choice(["", " ", "tell", "drop", "asks", "ask", "ranks ", " book", "hear", "believe",
                                  "torn\n", "ask always a", "follows a", "forget 1", "Book", "ask  where a usually b"])
        return word

    def test_many_walks(self):
        chance = random.Random(81)
        seen = {}
        for walk in range(120):
            names = ["a", "b", "bird", "c", "fly", "x"][:chance.choice([0, 1, 2, 3, 3, 4, 5, 6])]
            rows = {}
            for step in range(chance.choice([0, 2, 4, 8, 16]) if names else 0):
                first, second = (shown_sentence(sentence_over(chance, names, 2)) for _ in range(2))
                row = f"always {first} or {second} or not a" if step % 7 == 6 else f"where {first} usually {second}"
                rows[row] = True
            text = "\n".join(rows)
            try:
                plain = PlainDesk(text)
            except ValueError as due:
                self.refused(type(due), due.row, Desk, text)
                continue
            desk = Desk(text)
            for step in range(50):
                told = self.agree(desk, plain, self.line(chance, plain))
                seen[told] = seen.get(told, 0) + 1
                self.alike(desk, plain)
        for word in ("ask", "follows", "ranks", "torn", "hear", "forget", "believe", "book", "tell", "drop", "NoAsk",
                     "NoRow", "NoSentence", "TooLong", "NoName", "NotTold", "NoNews", "Torn"):
            self.assertGreater(seen.get(word, 0), 4, (word, seen))


class Interface(unittest.TestCase):
    def test_arguments(self):
        self.assertEqual(str(inspect.signature(Desk)), "(text='')")
        self.assertEqual(str(inspect.signature(Desk.ask)), "(self, line)")


if __name__ == "__main__":
    unittest.main()
