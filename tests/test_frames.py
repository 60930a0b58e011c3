"""Points 2, 10 and 11: the frame of a book."""

import copy
import inspect
import random
import unittest

from samples import bits, mask_of, sentence_over, so, whole
from wontbook.books import read_book
from wontbook.frames import frame_of, rule_of
from wontbook.sentences import names_in

A, B = ("is", "a"), ("is", "b")
NAMES = ("a", "bird", "c", "dog", "eel", "fly")
PENGUINS = "where penguin usually not fly\nalways not penguin or bird\nwhere bird usually fly"


def expected_frame(book):
    """Points 10 and 11 told once more, with lists of the names that are so."""
    names, firm, usual = book
    here = [[name for k, name in enumerate(names) if world // 2 ** k % 2] for world in range(2 ** len(names))]
    possible = [w for w, names_so in enumerate(here) if all(so(sentence, names_so) for sentence in firm)]
    rules = [(mask_of(w for w in possible if so(first, here[w]) and so(second, here[w])),
              mask_of(w for w in possible if so(first, here[w]) and not so(second, here[w])))
             for first, second in usual]
    return (2 ** len(names), mask_of(possible), tuple(rules))


def random_book(chance):
    names = NAMES[:chance.randint(1, 6)]
    firm = tuple(sentence_over(chance, names, 4) for _ in range(chance.randint(0, 3)))
    usual = tuple((sentence_over(chance, names, 4), sentence_over(chance, names, 4))
                  for _ in range(chance.randint(0, 17)))
    return (names, firm, usual)


class Rules(unittest.TestCase):
    def test_met_and_broken(self):
        names = ("a", "b")
        self.assertEqual(rule_of(names, 0b1111, A, B), (0b1000, 0b0010))
        self.assertEqual(rule_of(names, 0b1111, B, A), (0b1000, 0b0100))
        self.assertEqual(rule_of(names, 0b1111, A, ("not", B)), (0b0010, 0b1000))
        self.assertEqual(rule_of(names, 0b1111, ("not", A), B), (0b0100, 0b0001))
        self.assertEqual(rule_of(names, 0b1111, A, A), (0b1010, 0))
        self.assertEqual(rule_of(names, 0b1111, A, ("not", A)), (0, 0b1010))
        self.assertEqual(rule_of(names, 0b1111, ("and", A, ("not", A)), B), (0, 0))
        self.assertEqual(rule_of(names, 0b1111, ("or", A, ("not", A)), B), (0b1100, 0b0011))

    def test_possible_worlds_alone(self):
        names = ("a", "b")
        for possible in range(16):
            self.assertEqual(rule_of(names, possible, A, B), (0b1000 & possible, 0b0010 & possible))
            self.assertEqual(rule_of(names, possible, ("not", A), ("or", A, B)), (0b0100 & possible, 0b0001 & possible))

    def test_six_names(self):
        every = (1 << 64) - 1
        first = ("is", "fly")
        met, broken = rule_of(NAMES, every, first, ("is", "a"))
        self.assertEqual(bits(met), {w for w in range(32, 64) if w % 2})
        self.assertEqual(bits(broken), {w for w in range(32, 64) if not w % 2})
        self.assertEqual(rule_of(NAMES, 1 << 63, first, ("is", "a")), (1 << 63, 0))
        self.assertEqual(rule_of(NAMES, 1 << 63, first, ("not", ("is", "a"))), (0, 1 << 63))

    def test_tuples_of_whole_numbers_without_a_common_world(self):
        chance = random.Random(21)
        for step in range(300):
            names = NAMES[:chance.randint(1, 6)]
            possible = chance.getrandbits(2 ** len(names))
            first, second = sentence_over(chance, names, 4), sentence_over(chance, names, 4)
            told = rule_of(names, possible, first, second)
            self.assertIs(type(told), tuple)
            self.assertEqual(len(told), 2)
            self.assertTrue(whole(told))
            self.assertEqual(told[0] & told[1], 0)
            self.assertEqual((told[0] | told[1]) & ~possible, 0)
            self.assertGreaterEqual(min(told), 0)

    def test_called_by_their_names(self):
        self.assertEqual(rule_of(names=("a", "b"), possible=15, S=A, T=B), (0b1000, 0b0010))


class Frames(unittest.TestCase):
    def test_without_rows(self):
        self.assertEqual(frame_of(((), (), ())), (1, 1, ()))
        self.assertEqual(frame_of(read_book("")), (1, 1, ()))

    def test_names_that_stand_in_no_row(self):
        for count in range(7):
            self.assertEqual(frame_of((NAMES[:count], (), ())), (2 ** count, 2 ** 2 ** count - 1, ()))
        self.assertEqual(frame_of((("a", "b"), (A,), ())), (4, 0b1010, ()))
        self.assertEqual(frame_of((("a", "b"), (B,), ())), (4, 0b1100, ()))
        self.assertEqual(frame_of((("a", "aa", "b"), (), ((A, B),))), (8, 255, ((0b10100000, 0b00001010),)))

    def test_the_penguins(self):
        # bird is 1, fly 2, penguin 4: penguins without bird (4 and 6) are not possible.
        self.assertEqual(frame_of(read_book(PENGUINS)),
                         (8, mask_of([0, 1, 2, 3, 5, 7]),
                          ((mask_of([5]), mask_of([7])), (mask_of([3, 7]), mask_of([1, 5])))))

    def test_all_firm_sentences_hold(self):
        self.assertEqual(frame_of(read_book("always a or b")), (4, 0b1110, ()))
        self.assertEqual(frame_of(read_book("always a or b\nalways not a or not b")), (4, 0b0110, ()))
        self.assertEqual(frame_of(read_book("always a\nalways b")), (4, 0b1000, ()))

    def test_firm_sentences_that_no_world_keeps(self):
        self.assertEqual(frame_of(read_book("always a\nalways not a")), (2, 0, ()))
        self.assertEqual(frame_of(read_book("always a and not a\nwhere b usually a\nwhere a or b usually b")),
                         (4, 0, ((0, 0), (0, 0))))

    def test_rules_in_the_order_of_the_pairs(self):
        forwards = ((A, B), (B, A), (A, ("not", B)), (("not", A), B), (B, B))
        rules = ((0b1000, 0b0010), (0b1000, 0b0100), (0b0010, 0b1000), (0b0100, 0b0001), (0b1100, 0))
        self.assertEqual(frame_of((("a", "b"), (), forwards)), (4, 15, rules))
        self.assertEqual(frame_of((("a", "b"), (), forwards[::-1])), (4, 15, rules[::-1]))

    def test_rules_may_be_alike(self):
        self.assertEqual(frame_of(read_book("where a usually b\nwhere not not a usually b\nwhere a usually a and b")),
                         (4, 15, ((0b1000, 0b0010),) * 3))

    def test_many_books(self):
        chance = random.Random(22)
        for step in range(250):
            book = random_book(chance)
            kept = copy.deepcopy(book)
            told = frame_of(book)
            self.assertEqual(told, expected_frame(book))
            self.assertEqual(book, kept)
            self.assertTrue(whole(told))
            self.assertEqual([type(part) for part in told], [int, int, tuple])
            self.assertTrue(all(type(rule) is tuple and len(rule) == 2 for rule in told[2]))
            self.assertEqual(frame_of(book), told)

    def test_twenty_rows_of_six_names(self):
        chance = random.Random(23)
        usual = []
        while len(usual) < 20:
            pair = (sentence_over(chance, NAMES, 7), sentence_over(chance, NAMES, 7))
            if pair not in usual:
                usual.append(pair)
        book = (NAMES, (), tuple(usual))
        self.assertGreater(len(names_in(usual[0][0])), 1)
        self.assertEqual(frame_of(book), expected_frame(book))


class Interface(unittest.TestCase):
    def test_arguments(self):
        self.assertEqual(str(inspect.signature(rule_of)), "(names, possible, S, T)")
        self.assertEqual(str(inspect.signature(frame_of)), "(book)")


if __name__ == "__main__":
    unittest.main()
