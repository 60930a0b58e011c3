"""Points 2, 7 and 8: rows and books read and shown."""

import copy
import inspect
import random
import unittest

from wontbook.books import read_book, read_row, shown_book, shown_row
from wontbook.errors import NoRow, NoSentence, RowError, TooLong, TooMany, Twice
from wontbook.sentences import read_sentence

A, B, C = ("is", "a"), ("is", "b"), ("is", "c")
LONG = "a" * 121
TWENTY = ["always " + "not " * k + "a" for k in range(20)]
SIX = ["always f", "where e usually d or c", "where b and a usually f"]


class Case(unittest.TestCase):
    def refused(self, kind, number, call, *given, **named):
        with self.assertRaises(RowError, msg=repr(given)) as caught:
            call(*given, **named)
        self.assertIs(type(caught.exception), kind, given)
        self.assertEqual(caught.exception.row, number, given)

    def row_refused(self, kind, line):
        """As a row by itself, by each way of telling its number, and in a book."""
        self.refused(kind, 0, read_row, line)
        for row in (0, 7, int("9" * 80)):
            self.refused(kind, row, read_row, line, row)
            self.refused(kind, row, read_row, line=line, row=row)
        if line and "\n" not in line:
            self.refused(kind, 0, read_book, line)
            self.refused(kind, 2, read_book, "always c\nwhere c usually c\n" + line)

    def book_refused(self, kind, row, lines):
        self.refused(kind, row, read_book, "\n".join(lines))


class Rows(Case):
    def test_both_sorts(self):
        self.assertEqual(read_row("always a"), ("always", A))
        self.assertEqual(read_row("always not a or (b)"), ("always", ("or", ("not", A), B)))
        self.assertEqual(read_row("where a usually b"), ("usually", A, B))
        self.assertEqual(read_row("where a and b usually not (b or c)", 5),
                         ("usually", ("and", A, B), ("not", ("or", B, C))))

    def test_words_that_are_no_row(self):
        for line in ("", " ", "  ", "a", "always", " always a", "Always a", "alwaysa", "always(a)", "never a",
                     "where", "where ", "where a", "where a b", "where usually", "where usually b", "where a usually",
                     "where a usually b usually c", "where usually usually a", "where a usually usually b",
                     "where usually a usually", "where usually a usually b", "where a usually b usually", "usually",
                     "usually a", "a usually b", " where a usually b", "where a Usually b", "where(a) usually b",
                     "where a usually(b)", "where (a usually) b", "wherea usually b", "where a usuallyb", "not a",
                     "where  a", "(always a)", "where a usually b and usually", "tell always a", "!", "~"):
            self.row_refused(NoRow, line)

    def test_a_line_feed_is_no_row(self):
        for line in ("\n", "always a\n", "\nalways a", "always\na", "always a\nalways b", "where a\nusually b",
                     "where a usually b\n", "where a usually b\nusually c", "always " + LONG + "\n",
                     "where a\n usually " + LONG, "where " + LONG + " usually b\n"):
            self.row_refused(NoRow, line)

    def test_blanks_belong_to_the_sentence(self):
        for line in ("always ", "always  ", "always  a", "always a ", "where  usually b", "where a usually ",
                     "where  a usually b", "where a  usually b", "where a usually  b", "where a usually b ",
                     "where  usually ", "always a  and b", "where a and  b usually c"):
            self.row_refused(NoSentence, line)

    def test_usually_and_always_within_sentences(self):
        for line in ("always usually", "always a usually b", "always always a", "always where a usually b",
                     "where where a usually b", "where a usually where b", "where always usually always",
                     "where (usually) usually b", "where a usually not(usually)", "where (a usually b)"):
            self.row_refused(NoSentence, line)

    def test_the_first_sentence_then_the_second(self):
        text = "not " * 27 + "twelveletter"
        self.assertEqual(read_row("always " + text), ("always", read_sentence(text)))
        self.assertEqual(read_row(f"where {text} usually {text}"), ("usually", read_sentence(text), read_sentence(text)))
        self.row_refused(TooLong, "always " + LONG)
        self.row_refused(TooLong, "always (" + text + ")")
        self.row_refused(TooLong, "always " + " " * 121)
        self.row_refused(NoSentence, "always " + " " * 120)
        self.row_refused(NoSentence, "always a)")
        for good in ("a", text):
            self.row_refused(TooLong, f"where {LONG} usually {good}")
            self.row_refused(NoSentence, f"where a) usually {good}")
            self.row_refused(TooLong, f"where {good} usually {LONG}")
            self.row_refused(NoSentence, f"where {good} usually a)")
        self.row_refused(TooLong, f"where {LONG} usually a)")
        self.row_refused(NoSentence, f"where a) usually {LONG}")

    def test_words_are_told_before_sentences(self):
        self.row_refused(NoRow, "where " + LONG)
        self.row_refused(NoRow, f"where {LONG} usually")
        self.row_refused(NoRow, f"where a) usually {LONG} usually b")
        self.row_refused(NoRow, LONG)

    def test_shown(self):
        self.assertEqual(shown_row(("always", ("not", ("and", A, B)))), "always not (a and b)")
        self.assertEqual(shown_row(("usually", ("or", A, B), ("not", C))), "where a or b usually not c")
        for line in ("always a", "where a usually b", "where b usually a", "always a and (b or c)"):
            self.assertEqual(shown_row(read_row(line)), line)
        self.assertEqual(shown_row(read_row("where ((a)) usually (not (b))")), "where a usually not b")


class Books(Case):
    def test_without_rows(self):
        self.assertEqual(read_book(""), ((), (), ()))
        self.assertEqual(shown_book(((), (), ())), "")

    def test_names_firm_and_usual(self):
        text = "where penguin usually not fly\nalways not penguin or bird\nwhere bird usually fly\nalways not (b and a)"
        book = read_book(text)
        bird, fly, penguin = ("is", "bird"), ("is", "fly"), ("is", "penguin")
        self.assertEqual(book, (("a", "b", "bird", "fly", "penguin"),
                                (("or", ("not", penguin), bird), ("not", ("and", B, A))),
                                ((penguin, ("not", fly)), (bird, fly))))
        self.assertEqual(shown_book(book), "always not penguin or bird\nalways not (b and a)\n"
                                           "where penguin usually not fly\nwhere bird usually fly")

    def test_names_rising_and_each_once(self):
        self.assertEqual(read_book("always b and ba and ab\nwhere b usually aa or a or b")[0],
                         ("a", "aa", "ab", "b", "ba"))
        self.assertEqual(read_book("\n".join(reversed(SIX)))[0], ("a", "b", "c", "d", "e", "f"))

    def test_one_sort_alone(self):
        self.assertEqual(read_book("always b\nalways a"), (("a", "b"), (B, A), ()))
        self.assertEqual(read_book("where b usually a\nwhere a usually b"), (("a", "b"), (), ((B, A), (A, B))))

    def test_every_part_is_a_tuple(self):
        book = read_book("always a\nwhere a usually b")
        for part in (book,) + book + book[1] + book[2]:
            self.assertIs(type(part), tuple)

    def test_each_fault_in_its_row(self):
        for bad, kind in (("nor", NoRow), ("always " + LONG, TooLong), ("where a usually b)", NoSentence),
                          ("always (x)", Twice), ("always a and b and c and d and e and f", TooMany)):
            for before in range(4):
                lines = ["always x", "where x usually y", "where y usually x", "always y"][:max(before, 1)]
                self.book_refused(kind, len(lines), lines + [bad])
                self.book_refused(kind, len(lines), lines + [bad, "always z", "always z", "nor"])

    def test_the_first_row_at_fault(self):
        faults = [("nor", NoRow), ("always " + LONG, TooLong), ("always a)", NoSentence),
                  ("always ((x))", Twice), ("always a or b or c or d or e or f", TooMany)]
        for one, kind in faults:
            for other, _ in faults:
                self.book_refused(kind, 1, ["always x", one, other])
                self.book_refused(kind, 2, ["always x", "always y", one, "always z", other])

    def test_a_row_without_a_sentence_is_told_before_the_21st(self):
        for bad, kind in (("nor", NoRow), ("", NoRow), ("always " + LONG, TooLong), ("always ", NoSentence),
                          ("always (a)", Twice), ("always b", TooMany)):
            self.book_refused(kind, 20, TWENTY + [bad])
            self.book_refused(kind, 20, TWENTY + [bad, "nor"])

    def test_sentences_are_told_before_a_seventh_name(self):
        self.book_refused(NoSentence, 3, SIX + ["where g usually h)"])
        self.book_refused(TooLong, 3, SIX + ["where g usually " + LONG])

    def test_the_same_row_again(self):
        self.book_refused(Twice, 1, ["always a", "always a"])
        self.book_refused(Twice, 1, ["always a", "always ((a))"])
        self.book_refused(Twice, 2, ["always a or b or c", "always a", "always (a or b) or c"])
        self.book_refused(Twice, 1, ["where a and b usually not c", "where (a) and (b) usually (not c)"])
        self.book_refused(Twice, 3, ["where a usually b", "where b usually a", "always a", "where a usually (b)"])

    def test_rows_that_are_not_the_same(self):
        lines = ["always a", "where a usually a", "where a usually b", "where b usually a", "always a and b",
                 "always b and a", "always a or b or c", "always a or (b or c)", "always not not a"]
        book = read_book("\n".join(lines))
        self.assertEqual((len(book[1]), len(book[2])), (6, 3))

    def test_twenty_rows_and_one_more(self):
        self.assertEqual(len(read_book("\n".join(TWENTY))[1]), 20)
        self.book_refused(TooMany, 20, TWENTY + ["where a usually a"])
        self.book_refused(TooMany, 20, TWENTY + ["where a usually a", "always a"])
        mixed = [line.replace("always", "where a usually") for line in TWENTY[:10]] + TWENTY[:10]
        self.assertEqual([len(part) for part in read_book("\n".join(mixed))], [1, 10, 10])
        self.book_refused(TooMany, 20, mixed + ["always b"])

    def test_six_names_and_one_more(self):
        self.assertEqual(len(read_book("\n".join(SIX))[0]), 6)
        self.assertEqual(len(read_book("\n".join(SIX + ["always a or f"]))[0]), 6)
        for line in ("always g", "where a usually g", "where g usually a", "always not (a and (b or g))"):
            self.book_refused(TooMany, 3, SIX + [line])
            self.book_refused(TooMany, 3, SIX + [line, "always h"])
        self.book_refused(TooMany, 0, ["where a and b and c usually d and e and f and g"])
        self.assertEqual(len(read_book("where a and b and c usually d and e and f")[0]), 6)
        self.book_refused(TooMany, 1, ["always a or b or c or d or e", "where f usually g or h"])

    def test_empty_rows(self):
        self.book_refused(NoRow, 0, ["", ""])
        self.book_refused(NoRow, 1, ["always a", ""])
        self.book_refused(NoRow, 0, ["", "always a"])
        self.book_refused(NoRow, 1, ["always a", "", "always b"])
        self.book_refused(NoRow, 2, ["always a", "always b", "", ""])
        self.book_refused(NoRow, 0, [" "])

    def test_many_rows_stop_at_the_21st(self):
        self.book_refused(TooMany, 20, TWENTY + ["always b", "always a", ""] * 300)

    def test_eight_thousand_signs(self):
        self.refused(TooLong, 0, read_book, "always " + "a" * 7993)
        self.refused(NoRow, 0, read_book, "\n" * 8000)
        self.refused(NoSentence, 0, read_book, ("always " + "(" * 113 + "\n") * 66)


class Again(Case):
    def lines(self, chance):
        parts = ["a", "b", "not c", "(d)", "a and b", "a or b", "not (e or f)", "(a or b) and c", "a or (b or c)",
                 "((a and (b and c)))", "not not d"]
        row = chance.choice(["always {}", "where {} usually {}"])
        return row.format(chance.choice(parts), chance.choice(parts))

    def test_what_is_shown_is_read_as_the_same_book(self):
        chance = random.Random(5)
        sizes = {}
        for step in range(1500):
            told = {}
            for line in [self.lines(chance) for _ in range(chance.randint(0, 20))]:
                told.setdefault(read_row(line), line)
            book = read_book("\n".join(told.values()))
            sizes[len(told)] = True
            self.assertEqual(book[1], tuple(row[1] for row in told if row[0] == "always"))
            self.assertEqual(book[2], tuple(row[1:] for row in told if row[0] == "usually"))
            text = shown_book(book)
            self.assertEqual(read_book(text), book)
            firm, usual = len(book[1]), len(book[2])
            kinds = [line.split(" ")[0] for line in text.split("\n")] if text else []
            self.assertEqual(kinds, ["always"] * firm + ["where"] * usual)
        self.assertGreater(len(sizes), 15)

    def test_names_that_stand_in_no_row(self):
        self.assertEqual(shown_book((("a", "b", "zebra"), (A,), ((A, B),))), "always a\nwhere a usually b")
        self.assertEqual(shown_book((("a", "b"), (), ())), "")

    def test_nothing_handed_in_is_changed(self):
        book = (("a", "b", "c"), (("or", A, B),), ((A, ("not", C)), (B, C)))
        row = ("usually", ("and", A, B), C)
        kept = copy.deepcopy((book, row))
        first = shown_book(book), shown_row(row)
        self.assertEqual((shown_book(book), shown_row(row)), first)
        self.assertEqual((book, row), kept)

    def test_nothing_is_kept_from_one_text_to_the_next(self):
        text = "always a\nwhere a usually b"
        first = read_book(text)
        self.book_refused(TooMany, 3, SIX + ["always g"])
        self.book_refused(Twice, 2, ["always a", "where a usually b", "always a"])
        self.assertEqual(read_book(text), first)
        self.assertEqual(read_book("always g"), (("g",), (("is", "g"),), ()))


class Interface(unittest.TestCase):
    def test_arguments(self):
        self.assertEqual(str(inspect.signature(read_row)), "(line, row=0)")
        self.assertEqual(str(inspect.signature(shown_row)), "(told)")
        self.assertEqual(str(inspect.signature(read_book)), "(text)")
        self.assertEqual(str(inspect.signature(shown_book)), "(book)")


if __name__ == "__main__":
    unittest.main()
