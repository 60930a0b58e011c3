"""Points 2, 4, 5 and 6: sentences read, shown and looked through."""

import copy
import inspect
import itertools
import random
import re
import string
import unittest

from wontbook.errors import NoSentence, TooLong
from wontbook.sentences import names_in, read_sentence, shown_sentence

KEPT_WORDS = ["always", "where", "usually", "not", "and", "or"]
A, B, C, D = ("is", "a"), ("is", "b"), ("is", "c"), ("is", "d")
SIGNS = "".join(chr(code) for code in range(32, 127) if chr(code) != chr(37)) + "\n"


def last_outside(text, word):
    """The last place of `word` that lies within no brackets, or -1."""
    deep = 0
    for place in range(len(text) - 1, -1, -1):
        deep += (text[place] == ")") - (text[place] == "(")
        if deep == 0 and text.startswith(word, place):
            return place
    return -1


def expected(text):
    """Point 5 told once more, by cutting a text at its loosest word."""
    for word in ("or", "and"):
        place = last_outside(text, f" {word} ")
        if place >= 0:
            left, right = expected(text[:place]), expected(text[place + len(word) + 2:])
            return None if left is None or right is None else (word, left, right)
    if text.startswith("not "):
        inner = expected(text[4:])
        return None if inner is None else ("not", inner)
    if text.startswith("(") and text.endswith(")"):
        return expected(text[1:-1])
    if re.fullmatch("[a-z]{1,12}", text) and text not in KEPT_WORDS:
        return ("is", text)
    return None


def answer(text):
    try:
        return read_sentence(text)
    except NoSentence:
        return None


def small_sentences():
    """All sentences up to three tuples deep over two names, but for the widest."""
    one = [A, B]
    two = one + [("not", s) for s in one] + [(w, s, t) for w in ("and", "or") for s in one for t in one]
    return two + [("not", s) for s in two] + [(w, s, t) for w in ("and", "or") for s in two for t in two]


def random_sentence(chance, deep):
    kind = chance.choice(["is", "not", "and", "or", "and", "or"]) if deep > 1 else "is"
    if kind == "is":
        return ("is", chance.choice(["a", "bird", "notable", "orangutan", "twelveletter"]))
    if kind == "not":
        return ("not", random_sentence(chance, deep - 1))
    return (kind, random_sentence(chance, deep - 1), random_sentence(chance, deep - 1))


def count(sentence):
    return 1 + sum(count(part) for part in sentence[1:] if isinstance(part, tuple))


def bracket_pairs(text):
    begun, pairs = [], []
    for place, sign in enumerate(text):
        if sign == "(":
            begun.append(place)
        elif sign == ")":
            pairs.append((begun.pop(), place))
    return pairs


class Reading(unittest.TestCase):
    def refused(self, text):
        with self.assertRaises(NoSentence, msg=repr(text)) as caught:
            read_sentence(text)
        self.assertIs(type(caught.exception), NoSentence)
        self.assertEqual(caught.exception.row, 0)

    def test_the_four_kinds(self):
        self.assertEqual(read_sentence("a"), A)
        self.assertEqual(read_sentence("not a"), ("not", A))
        self.assertEqual(read_sentence("a and b"), ("and", A, B))
        self.assertEqual(read_sentence("a or b"), ("or", A, B))
        self.assertEqual(read_sentence("(a)"), A)

    def test_the_documents_own(self):
        self.assertEqual(read_sentence("a or b or c and not d"), ("or", ("or", A, B), ("and", C, ("not", D))))

    def test_not_takes_least_then_and_then_or(self):
        self.assertEqual(read_sentence("not a and b"), ("and", ("not", A), B))
        self.assertEqual(read_sentence("not a or b"), ("or", ("not", A), B))
        self.assertEqual(read_sentence("a and b or c"), ("or", ("and", A, B), C))
        self.assertEqual(read_sentence("a or b and c"), ("or", A, ("and", B, C)))
        self.assertEqual(read_sentence("not not a"), ("not", ("not", A)))

    def test_several_of_a_kind_from_the_left(self):
        self.assertEqual(read_sentence("a and b and c and d"), ("and", ("and", ("and", A, B), C), D))
        self.assertEqual(read_sentence("a or b or c or d"), ("or", ("or", ("or", A, B), C), D))

    def test_brackets(self):
        self.assertEqual(read_sentence("not (a and b)"), ("not", ("and", A, B)))
        self.assertEqual(read_sentence("(a or b) and c"), ("and", ("or", A, B), C))
        self.assertEqual(read_sentence("a and (b and c)"), ("and", A, ("and", B, C)))
        self.assertEqual(read_sentence("a or (b or c)"), ("or", A, ("or", B, C)))
        self.assertEqual(read_sentence("((not ((a))))"), ("not", A))
        self.assertEqual(read_sentence("not (a) and (b)"), ("and", ("not", A), B))

    def test_one_blank_and_no_other(self):
        for text in (" a", "a ", "( a)", "(a )", "a  and b", "a and  b", "not  a", "a and b ", " not a",
                     "(a)and b", "a and(b)", "(a) and(b)", "not(a)", "a  or b", "a or  b", "a or(b)", "(a)or b",
                     "aand b", "a andb", " (a)", "(a) ", "( not a)", "a\nand b", "a and\nb", "a\n", "\na", " "):
            self.refused(text)

    def test_what_is_no_sentence(self):
        for text in ("", "()", "(", ")", "(a", "a)", ")a(", "a)(b", "(a)(b)", "a b", "a not b", "not", "and", "or",
                     "not ", " and ", "a and", "a and ", "and a", " and a", "a and or b", "a and and b", "a (b)",
                     "(a) b", "a or not", "not and a", "a) and (b", "A", "aB", "a1", "a_b", "a-b", "!", "a,b",
                     "[a]", "a & b", "not a not b", "(a) or (b", "Not a", "a AND b", "(not) a", "a (and) b"):
            self.refused(text)

    def test_names_of_one_twelve_and_thirteen_letters(self):
        for letter in string.ascii_lowercase:
            self.assertEqual(read_sentence(letter), ("is", letter))
            self.assertEqual(read_sentence(letter * 12), ("is", letter * 12))
            self.refused(letter * 13)
            self.refused(letter.upper())
        self.refused("not " + "a" * 13)
        self.refused("a and " + "a" * 13)

    def test_the_six_words_are_no_names(self):
        for word in KEPT_WORDS:
            for text in (word, f"({word})", f"not {word}", f"a and {word}", f"{word} or a"):
                self.refused(text)

    def test_names_that_hold_a_kept_word(self):
        for word in KEPT_WORDS:
            for name in (word + "x", "x" + word, "x" + word + "x", word + word[:5]):
                self.assertEqual(read_sentence(name), ("is", name))
                self.assertEqual(read_sentence(f"not {name} and {name}"), ("and", ("not", ("is", name)), ("is", name)))

    def test_every_sign(self):
        for sign in SIGNS:
            if sign not in string.ascii_lowercase:
                for text in (sign, "a" + sign, sign + "a", "a" + sign + "a", "a and " + sign):
                    self.refused(text)

    def test_brackets_within_one_another_up_to_120_signs(self):
        for deep in range(60):
            self.assertEqual(read_sentence("(" * deep + "a" + ")" * deep), A)
            self.refused("(" * deep + "a" + ")" * (deep + 1))
            self.refused("(" * (deep + 1) + "a" + ")" * deep)
        self.assertEqual(read_sentence("(" * 59 + "ab" + ")" * 59), ("is", "ab"))
        self.refused("(" * 120)
        self.refused("(" * 60 + ")" * 60)
        nested = A
        for step in range(19):
            nested = ("not", nested)
        self.assertEqual(read_sentence("not (" * 19 + "a" + ")" * 19), nested)

    def test_all_short_texts_of_pieces(self):
        pieces = ["a", "not", "and", "or", "(", ")", " "]
        for length in range(7):
            for chosen in itertools.product(pieces, repeat=length):
                text = "".join(chosen)
                self.assertEqual(answer(text), expected(text), text)

    def test_longer_texts_of_pieces(self):
        chance = random.Random(1)
        pieces = ["a", "bird", "not ", " and ", " or ", " and not ", "(", ")", "(", ")", "(a", "b)"]
        for step in range(20000):
            text = "".join(chance.choices(pieces, k=chance.randint(3, 14)))
            if len(text) <= 120:
                self.assertEqual(answer(text), expected(text), text)

    def test_sentences_with_a_sign_changed(self):
        chance = random.Random(2)
        for step in range(8000):
            text = shown_sentence(random_sentence(chance, 4))
            if len(text) < 120:
                self.assertEqual(answer(text), expected(text), text)
                place = chance.randint(0, len(text))
                text = text[:place] + chance.choice(SIGNS + " ()") + text[place + chance.randint(0, 1):]
                self.assertEqual(answer(text), expected(text), text)


class Refusing(unittest.TestCase):
    def refusal(self, text, *row):
        with self.assertRaises((TooLong, NoSentence)) as caught:
            read_sentence(text, *row)
        return (type(caught.exception), caught.exception.row)

    def test_120_and_121_signs_of_a_sentence(self):
        text = "not " * 27 + "twelveletter"
        self.assertEqual(len(text), 120)
        self.assertEqual(names_in(read_sentence(text)), ["twelveletter"])
        longer = "(" * 59 + "abc" + ")" * 59
        self.assertEqual(len(longer), 121)
        self.assertEqual(self.refusal(longer), (TooLong, 0))

    def test_120_and_121_signs_of_what_is_none(self):
        for sign in SIGNS:
            self.assertEqual(self.refusal(sign * 120), (NoSentence, 0))
            self.assertEqual(self.refusal(sign * 121), (TooLong, 0))
        self.assertEqual(self.refusal("(" * 8000), (TooLong, 0))

    def test_the_empty_text(self):
        self.assertEqual(self.refusal(""), (NoSentence, 0))

    def test_the_row_borne(self):
        for row in (0, 1, 19, 20, 10 ** 79, int("9" * 80)):
            self.assertEqual(self.refusal("", row), (NoSentence, row))
            self.assertEqual(self.refusal("a b", row), (NoSentence, row))
            self.assertEqual(self.refusal("a" * 121, row), (TooLong, row))
            for text, kind in (("a)", NoSentence), ("A" * 121, TooLong)):
                with self.assertRaises(kind) as caught:
                    read_sentence(text=text, row=row)
                self.assertEqual(caught.exception.row, row)
            self.assertEqual(read_sentence("a", row), A)


class Showing(unittest.TestCase):
    def test_the_four_kinds(self):
        for text in ("a", "not a", "a and b", "a or b", "twelveletter"):
            self.assertEqual(shown_sentence(read_sentence(text)), text)

    def test_the_documents_own(self):
        sentence = ("or", ("or", A, B), ("and", C, ("not", D)))
        self.assertEqual(shown_sentence(sentence), "a or b or c and not d")

    def test_brackets_where_another_sentence_would_be_read(self):
        for text in ("not (a and b)", "not (a or b)", "(a or b) and c", "a and (b or c)", "a and (b and c)",
                     "a or (b or c)", "not (not a and b)", "(a or b) and (c or d)", "a or b and (c or d)"):
            self.assertEqual(shown_sentence(expected(text)), text)

    def test_no_brackets_elsewhere(self):
        for text, shown in (("(a)", "a"), ("not (not a)", "not not a"), ("not (a)", "not a"),
                            ("(a and b) and c", "a and b and c"), ("(a or b) or c", "a or b or c"),
                            ("(a and b) or (c and d)", "a and b or c and d"), ("(not a) and (not b)", "not a and not b"),
                            ("a or (not b)", "a or not b"), ("((a) or (b and c))", "a or b and c")):
            self.assertEqual(shown_sentence(expected(text)), shown)

    def test_small_sentences_are_shown_as_they_are_read(self):
        for sentence in small_sentences():
            text = shown_sentence(sentence)
            self.assertEqual(read_sentence(text), sentence)
            self.assertEqual(expected(text), sentence)
            for left, right in bracket_pairs(text):
                fewer = text[:left] + text[left + 1:right] + text[right + 1:]
                self.assertNotEqual(expected(fewer), sentence, text)

    def test_large_sentences_are_shown(self):
        chance = random.Random(3)
        for step in range(400):
            sentence = random_sentence(chance, 9)
            if count(sentence) <= 300:
                self.assertEqual(expected(shown_sentence(sentence)), sentence)

    def test_sentences_forty_tuples_deep(self):
        for deep in (40, 45):
            nots, lefts, rights, mixed = A, A, A, A
            for step in range(deep - 1):
                nots, lefts, rights = ("not", nots), ("and", lefts, B), ("or", B, rights)
                mixed = ("and", ("or", A, B), ("not", mixed)) if step % 2 else ("or", mixed, ("and", A, B))
            self.assertEqual(shown_sentence(nots), "not " * (deep - 1) + "a")
            self.assertEqual(shown_sentence(lefts), "a" + " and b" * (deep - 1))
            self.assertEqual(shown_sentence(rights), "b or (" * (deep - 2) + "b or a" + ")" * (deep - 2))
            self.assertEqual(expected(shown_sentence(mixed)), mixed)

    def test_a_sentence_of_three_hundred_tuples(self):
        wide = A
        for step in range(6):
            wide = ("and", wide, wide)
        wide = ("or", ("not", wide), wide)
        self.assertEqual(count(wide), 256)
        self.assertEqual(expected(shown_sentence(wide)), wide)
        row = [("not", ("is", "x"))] * 100
        while len(row) > 1:
            row = [(("and", "or")[k % 4 // 2], *row[k:k + 2]) if len(row[k:k + 2]) > 1 else row[k]
                   for k in range(0, len(row), 2)]
        self.assertEqual(count(row[0]), 299)
        self.assertEqual(expected(shown_sentence(row[0])), row[0])


class Names(unittest.TestCase):
    def test_rising_and_each_once(self):
        self.assertEqual(names_in(A), ["a"])
        self.assertEqual(names_in(read_sentence("c and (b or not a) and c or b")), ["a", "b", "c"])
        self.assertEqual(names_in(read_sentence("b or ba or ab or aa or a")), ["a", "aa", "ab", "b", "ba"])
        self.assertEqual(names_in(("not", ("not", D))), ["d"])

    def test_against_the_words_of_the_text(self):
        chance = random.Random(4)
        for step in range(500):
            sentence = random_sentence(chance, 6)
            words = re.findall("[a-z]+", shown_sentence(sentence))
            self.assertEqual(names_in(sentence), sorted(set(words) - {"not", "and", "or"}))

    def test_forty_deep_and_three_hundred_tuples(self):
        deep = A
        for step in range(39):
            deep = ("and", ("is", f"n{step % 7}"), deep)
        self.assertEqual(names_in(deep), ["a"] + [f"n{k}" for k in range(7)])

    def test_the_list_is_the_askers_own(self):
        sentence = read_sentence("b or a and not c")
        kept = copy.deepcopy(sentence)
        first = names_in(sentence)
        first.append("zebra")
        first[0] = "yak"
        self.assertEqual(names_in(sentence), ["a", "b", "c"])
        self.assertIsNot(names_in(sentence), names_in(sentence))
        self.assertEqual(sentence, kept)
        self.assertIs(type(first), list)


class Interface(unittest.TestCase):
    def test_arguments(self):
        self.assertEqual(str(inspect.signature(read_sentence)), "(text, row=0)")
        self.assertEqual(str(inspect.signature(shown_sentence)), "(sentence)")
        self.assertEqual(str(inspect.signature(names_in)), "(sentence)")


if __name__ == "__main__":
    unittest.main()
