"""Points 2 and 9: worlds, sets of worlds, and where sentences hold."""

import copy
import inspect
import itertools
import random
import unittest

from samples import ALL, bits, mask_of, sentence_over, so
from wontbook.worlds import holds, places, shown_world, worlds

NAMES = ("a", "bird", "c", "dog", "eel", "fly")


def names_so(names, world):
    """The names that are so, counted off the world's figures of base two from the right."""
    figures = reversed(format(world, "b").zfill(len(names)))
    return [name for name, figure in zip(names, figures) if figure == "1"]


def every_world():
    for count in range(7):
        for world in range(2 ** count):
            yield NAMES[:count], world


class Places(unittest.TestCase):
    def test_none_one_all_and_the_last(self):
        self.assertEqual(places(0), [])
        self.assertEqual(places(1), [0])
        self.assertEqual(places(1 << 63), [63])
        self.assertEqual(places(ALL), list(range(64)))
        self.assertEqual(places(ALL - 1), list(range(1, 64)))
        self.assertEqual(places(ALL - (1 << 63)), list(range(63)))
        self.assertEqual(places(1 + (1 << 63)), [0, 63])
        self.assertEqual(places(0b1101010), [1, 3, 5, 6])

    def test_each_world_by_itself(self):
        for world in range(64):
            self.assertEqual(places(1 << world), [world])
            self.assertEqual(places(ALL - (1 << world)), [w for w in range(64) if w != world])

    def test_all_small_sets(self):
        for count in range(9):
            for chosen in itertools.combinations(range(8), count):
                self.assertEqual(places(mask_of(chosen)), list(chosen))

    def test_rising_and_of_whole_numbers(self):
        chance = random.Random(11)
        for step in range(500):
            mask = chance.getrandbits(64) & chance.choice([ALL, chance.getrandbits(64)])
            told = places(mask)
            self.assertEqual(told, sorted(bits(mask)))
            self.assertIs(type(told), list)
            self.assertTrue(all(type(world) is int for world in told))

    def test_each_told_list_is_a_new_one(self):
        for mask in (0, 1, 0b1011, 1 << 63, ALL):
            first = places(mask)
            kept = list(first)
            second = places(mask)
            self.assertIsNot(first, second)
            first.append(99)
            first[0] = -1
            self.assertEqual(second, kept)
            self.assertEqual(places(mask), kept)
            second.clear()
            self.assertEqual(places(mask), kept)


class Holding(unittest.TestCase):
    def same(self, names, sentence):
        for world in range(2 ** len(names)):
            told = holds(names, sentence, world)
            self.assertIs(told, so(sentence, names_so(names, world)), (names, sentence, world))

    def test_a_name_is_so_where_its_bit_is_set(self):
        for count in range(1, 7):
            for number, name in enumerate(NAMES[:count]):
                for world in range(2 ** count):
                    self.assertIs(holds(NAMES[:count], ("is", name), world), world // 2 ** number % 2 == 1)

    def test_the_kinds_by_hand(self):
        a, b = ("is", "a"), ("is", "b")
        for sentence, row in ((a, "ftft"), (b, "fftt"), (("not", a), "tftf"), (("not", b), "ttff"),
                              (("and", a, b), "ffft"), (("or", a, b), "fttt"), (("and", a, ("not", b)), "ftff"),
                              (("not", ("or", a, b)), "tfff"), (("and", a, ("not", a)), "ffff"),
                              (("or", b, ("not", b)), "tttt"), (("or", ("and", a, b), a), "ftft")):
            for world in range(4):
                self.assertIs(holds(("a", "b"), sentence, world), row[world] == "t", (sentence, world))
            self.assertEqual(worlds(("a", "b"), sentence), mask_of(k for k in range(4) if row[k] == "t"))

    def test_every_kind_at_each_world(self):
        for count in range(1, 7):
            names = NAMES[:count]
            for first in names:
                self.same(names, ("is", first))
                self.same(names, ("not", ("is", first)))
                for second in names:
                    for kind in ("and", "or"):
                        self.same(names, (kind, ("is", first), ("is", second)))
                        self.same(names, (kind, ("not", ("is", first)), ("is", second)))
                        self.same(names, ("not", (kind, ("is", first), ("not", ("is", second)))))

    def test_many_sentences(self):
        chance = random.Random(12)
        for step in range(400):
            names = NAMES[:chance.randint(1, 6)]
            self.same(names, sentence_over(chance, names, chance.randint(1, 6)))

    def test_forty_deep_and_three_hundred_tuples(self):
        for deep in (40, 45):
            nots, lefts, rights = ("is", "a"), ("is", "a"), ("is", "bird")
            for step in range(deep - 1):
                nots, lefts, rights = ("not", nots), ("and", lefts, ("is", "bird")), ("or", ("is", "a"), rights)
            for sentence in (nots, lefts, rights):
                self.same(NAMES[:2], sentence)
        row = [(("is", "not")[k % 2], (NAMES[k % 6], ("is", NAMES[k % 5]))[k % 2]) for k in range(100)]
        while len(row) > 1:
            row = [(("and", "or", "or")[k % 3], *row[k:k + 2]) if len(row[k:k + 2]) > 1 else row[k]
                   for k in range(0, len(row), 2)]
        self.same(NAMES, row[0])


class Sets(unittest.TestCase):
    def test_just_the_worlds_in_which_holds_tells_true(self):
        chance = random.Random(13)
        for step in range(400):
            names = NAMES[:chance.randint(1, 6)]
            sentence = sentence_over(chance, names, chance.randint(1, 6))
            mask = worlds(names, sentence)
            self.assertIs(type(mask), int)
            self.assertEqual(mask, mask_of(w for w in range(2 ** len(names)) if holds(names, sentence, w) is True))
            self.assertEqual(mask, mask_of(w for w in range(2 ** len(names)) if so(sentence, names_so(names, w))))

    def test_none_and_all(self):
        for count in range(1, 7):
            a = ("is", NAMES[count - 1])
            self.assertEqual(worlds(NAMES[:count], ("and", a, ("not", a))), 0)
            self.assertEqual(worlds(NAMES[:count], ("or", a, ("not", a))), 2 ** 2 ** count - 1)
            self.assertIs(type(worlds(NAMES[:count], ("and", a, ("not", a)))), int)

    def test_the_last_world_alone(self):
        sentence = ("is", NAMES[0])
        for name in NAMES[1:]:
            sentence = ("and", sentence, ("is", name))
        self.assertEqual(worlds(NAMES, sentence), 1 << 63)
        self.assertEqual(worlds(NAMES, ("not", sentence)), ALL - (1 << 63))

    def test_names_that_do_not_stand_in_the_sentence(self):
        self.assertEqual(worlds(("a",), ("is", "a")), 0b10)
        self.assertEqual(worlds(("a", "b"), ("is", "a")), 0b1010)
        self.assertEqual(worlds(("a", "b"), ("is", "b")), 0b1100)
        self.assertEqual(worlds(("a", "b", "c"), ("is", "b")), 0b11001100)


class Showing(unittest.TestCase):
    def test_by_hand(self):
        self.assertEqual(shown_world((), 0), "{}")
        self.assertEqual(shown_world(("bird", "fly"), 0), "{}")
        self.assertEqual(shown_world(("bird", "fly"), 1), "{bird}")
        self.assertEqual(shown_world(("bird", "fly"), 2), "{fly}")
        self.assertEqual(shown_world(("bird", "fly"), 3), "{bird fly}")
        self.assertEqual(shown_world(("bird", "fly", "penguin"), 5), "{bird penguin}")
        self.assertEqual(shown_world(NAMES, 63), "{a bird c dog eel fly}")
        self.assertEqual(shown_world(NAMES, 32), "{fly}")

    def test_every_world_of_no_name_up_to_six(self):
        shown = {}
        for names, world in every_world():
            text = shown_world(names, world)
            self.assertIs(type(text), str)
            self.assertEqual(text, "{" + " ".join(names_so(names, world)) + "}")
            shown.setdefault(names, {})[text] = True
        self.assertEqual([len(texts) for texts in shown.values()], [1, 2, 4, 8, 16, 32, 64])


class Kept(unittest.TestCase):
    def test_nothing_handed_in_is_changed(self):
        names = ("a", "b", "c")
        sentence = ("or", ("and", ("is", "a"), ("not", ("is", "b"))), ("is", "c"))
        kept = copy.deepcopy((names, sentence))
        first = [holds(names, sentence, world) for world in range(8)], worlds(names, sentence), shown_world(names, 5)
        again = [holds(names, sentence, world) for world in range(8)], worlds(names, sentence), shown_world(names, 5)
        self.assertEqual(first, again)
        self.assertEqual((names, sentence), kept)


class Interface(unittest.TestCase):
    def test_arguments(self):
        self.assertEqual(str(inspect.signature(places)), "(mask)")
        self.assertEqual(str(inspect.signature(holds)), "(names, sentence, world)")
        self.assertEqual(str(inspect.signature(worlds)), "(names, sentence)")
        self.assertEqual(str(inspect.signature(shown_world)), "(names, world)")


if __name__ == "__main__":
    unittest.main()
