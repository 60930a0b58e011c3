"""Points 2, 16, 17 and 18: asks, the four answers, and how they are shown."""

import copy
import inspect
import itertools
import random
import unittest

from samples import ALL, BIG, bits, expected_answer, mask_of, random_ranks, rankings, rules_over, whole
from wontbook.asks import Answer, Even, Never, Seldom, Usually, asked

KINDS = {"usually": Usually, "seldom": Seldom, "open": Even, "never": Never}
NAMES = ("a", "bird", "c", "dog", "eel", "fly")


class Case(unittest.TestCase):
    def told(self, word, one, other, ranks, met, broken):
        """An ask's answer, looked at from every side."""
        kept = copy.deepcopy(ranks)
        answer = asked(ranks, met, broken)
        place = (ranks, met, broken)
        self.assertEqual((answer.called(), answer.one, answer.other), (word, one, other), place)
        self.assertIs(type(answer), KINDS[word], place)
        self.assertIsInstance(answer, Answer)
        self.assertEqual([kind for kind in KINDS.values() if isinstance(answer, kind)], [KINDS[word]], place)
        self.assertTrue(whole((answer.one, answer.other)), place)
        self.assertEqual(ranks, kept)
        return answer


class Asks(Case):
    def test_each_of_the_four(self):
        ranks = (0, 1, 1, 2)
        self.told("usually", 0, 1, ranks, 0b0001, 0b0010)
        self.told("seldom", 1, 0, ranks, 0b0010, 0b0001)
        self.told("open", 1, 2, ranks, 0b0010, 0b0100)
        self.told("open", 2, 1, ranks, 0b0100, 0b0010)
        self.told("never", None, None, ranks, 0, 0)

    def test_one_side_alone(self):
        self.told("usually", 0, None, (0,), 1, 0)
        self.told("seldom", None, 0, (0,), 0, 1)
        self.told("usually", 2, None, (0, 0, 7), 0b100, 0)
        self.told("seldom", None, 2, (0, 0, 7), 0, 0b100)

    def test_the_least_rank_and_then_the_least_number(self):
        ranks = (5, 3, 4, 3, 9, 2, 2)
        self.told("seldom", 1, 5, ranks, 0b0001111, 0b1110000)
        self.told("usually", 5, 1, ranks, 0b1110000, 0b0001111)
        self.told("usually", 6, 3, ranks, 0b1010000, 0b0001001)
        self.told("seldom", 0, 3, ranks, 0b0000001, 0b0011100)
        self.told("open", 1, 3, ranks, 0b0000011, 0b0011000)
        self.told("open", 3, 1, ranks, 0b0001101, 0b0010010)
        self.told("open", 5, 6, ranks, 0b0101010, 0b1010101)
        self.told("usually", 0, None, (4, 4, 4), 0b111, 0)
        self.told("open", 1, 0, (4, 4, 4), 0b110, 0b001)

    def test_worlds_without_a_rank(self):
        ranks = (None, 4, None, 6, None)
        self.told("usually", 1, 3, ranks, 0b00011, 0b11100)
        self.told("seldom", 3, 1, ranks, 0b11001, 0b00110)
        self.told("usually", 1, None, ranks, 0b00011, 0b10100)
        self.told("seldom", None, 3, ranks, 0b00101, 0b11000)
        self.told("never", None, None, ranks, 0b00001, 0b10100)
        self.told("never", None, None, ranks, 0b10101, 0)
        self.told("never", None, None, ranks, 0, 0b10101)
        self.told("never", None, None, (None,), 1, 0)
        self.told("never", None, None, (None,) * 64, ALL >> 32, ALL >> 32 << 32)
        self.told("open", 1, 3, (None, 0, None, 0), 0b0011, 0b1100)

    def test_empty_sets(self):
        for ranks in ((0,), (None,), (3, None, 0), (BIG,) * 64):
            self.told("never", None, None, ranks, 0, 0)

    def test_the_first_world_is_a_world(self):
        self.told("usually", 0, None, (0, 0), 1, 0)
        self.told("usually", 0, 1, (0, 1), 1, 2)
        self.told("seldom", None, 0, (0, 0), 0, 1)
        self.told("open", 0, 1, (0, 0), 1, 2)
        self.told("open", 1, 0, (0, 0), 2, 1)

    def test_ranks_of_eighty_figures(self):
        self.told("usually", 0, 1, (BIG - 1, BIG), 1, 2)
        self.told("seldom", 0, 1, (BIG, BIG - 1), 1, 2)
        self.told("open", 0, 1, (BIG, BIG), 1, 2)
        self.told("open", 1, 2, (None, BIG, BIG, BIG), 0b0011, 0b1100)
        self.told("usually", 63, 0, (BIG,) * 63 + (BIG - 1,), 1 << 63, ALL >> 1)
        self.told("seldom", 0, 63, (BIG,) * 63 + (BIG - 1,), ALL >> 1, 1 << 63)
        self.told("open", 0, 1, (BIG,) * 64, ALL // 3, ALL // 3 * 2)

    def test_every_ask_of_three_worlds(self):
        for possible in range(8):
            for ranks in rankings(3, possible, 2):
                for met, broken in rules_over(7):
                    word, one, other = expected_answer(ranks, met, broken)
                    self.told(word, one, other, ranks, met, broken)

    def test_many_asks(self):
        chance = random.Random(51)
        words = []
        for step in range(1500):
            size = chance.choice([1, 2, 5, 16, 64])
            ranks = random_ranks(chance, size, chance.getrandbits(size), chance.choice([0, 1, 3, 50, BIG]))
            met = chance.getrandbits(size) & chance.getrandbits(size)
            broken = chance.getrandbits(size) & chance.getrandbits(size) & ~met
            expected = expected_answer(ranks, met, broken)
            self.told(*expected, ranks, met, broken)
            words.append(expected[0])
        for word in KINDS:
            self.assertGreater(words.count(word), 50)

    def test_asked_again(self):
        ranks = (0, 1, 1, 2)
        first, second = asked(ranks, 1, 2), asked(ranks, 1, 2)
        third = asked(ranks, 8, 4)
        self.assertIsNot(first, second)
        self.assertEqual((first.called(), first.one, first.other), ("usually", 0, 1))
        self.assertEqual((third.called(), third.one, third.other), ("seldom", 3, 2))


class Ways(unittest.TestCase):
    """Point 17. Each way is told with its premises, so that it is seen to be more than an empty promise."""

    def usually(self, ranks, first, second):
        return isinstance(asked(ranks, first & second, first & ~second), Usually)

    def gone_through(self, ranks, sets, seen):
        pairs = {(one, other): self.usually(ranks, one, other) for one in sets for other in sets}
        whole_set = (1 << len(ranks)) - 1
        for a, b, c in itertools.product(sets, repeat=3):
            place = (ranks, a, b, c)
            ways = {
                "and": (pairs[a, b] and pairs[a, c], lambda: self.usually(ranks, a, b & c)),
                "or": (pairs[a, c] and pairs[b, c], lambda: self.usually(ranks, a | b, c)),
                "cut": (pairs[a, b] and self.usually(ranks, a & b, c), lambda: pairs[a, c]),
                "careful": (pairs[a, b] and pairs[a, c], lambda: self.usually(ranks, a & b, c)),
                "bold": (pairs[a, c] and not self.usually(ranks, a, whole_set & ~b),
                         lambda: self.usually(ranks, a & b, c)),
            }
            for way, (premise, end) in ways.items():
                if premise:
                    seen[way] = seen.get(way, 0) + 1
                    self.assertTrue(end(), (way, place))

    def test_all_rankings_and_sets_of_two_worlds(self):
        seen = {}
        for possible in range(4):
            for ranks in rankings(2, possible, 2):
                self.gone_through(ranks, range(4), seen)
        self.assertEqual(sorted(seen), ["and", "bold", "careful", "cut", "or"])

    def test_all_sets_of_three_worlds(self):
        seen = {}
        for ranks in ((0, 1, 2), (2, 0, 2), (1, 1, 0), (0, None, 1), (None, 3, 3), (None, None, None), (5, 5, 5)):
            self.gone_through(ranks, range(8), seen)
        self.assertTrue(all(count > 50 for count in seen.values()), seen)

    def test_drawn_rankings_and_sets(self):
        chance = random.Random(52)
        seen = {}
        for step in range(150):
            size = chance.choice([3, 4, 8, 16, 64])
            possible = chance.getrandbits(size) | chance.getrandbits(size)
            ranks = random_ranks(chance, size, possible, chance.choice([1, 2, 5, BIG]))
            # Sets with all worlds of the lower ranks are often usual of one another.
            low = mask_of(world for world in bits(possible) if ranks[world] <= 1)
            sets = [chance.getrandbits(size) | chance.choice([0, low]) for _ in range(4)] + [low, possible]
            self.gone_through(ranks, sets, seen)
        self.assertTrue(all(seen.get(way, 0) > 500 for way in ("and", "or", "cut", "careful", "bold")), seen)

    def test_ways_in_which_one_does_not_reason(self):
        # All birds fly usually, penguins do not: neither more premises nor a chain of usuals is enough.
        ranks = (0, 1, 0, 0, None, 1, None, 2)
        bird, fly, penguin = 0b10101010, 0b11001100, 0b11110000
        self.assertTrue(self.usually(ranks, bird, fly))
        self.assertFalse(self.usually(ranks, bird & penguin, fly))
        self.assertTrue(self.usually(ranks, penguin, bird))
        self.assertFalse(self.usually(ranks, penguin, fly))


class Showing(Case):
    def test_by_hand(self):
        ranks = (0, 1, 1, 2)
        names = ("bird", "fly")
        self.assertEqual(asked(ranks, 0b1000, 0b0001).shown(names), ["seldom", "{bird fly}", "{}"])
        self.assertEqual(asked(ranks, 0b0001, 0b0100).shown(names), ["usually", "{}", "{fly}"])
        self.assertEqual(asked(ranks, 0b0100, 0b0010).shown(names), ["open", "{fly}", "{bird}"])
        self.assertEqual(asked(ranks, 0, 0).shown(names), ["never", "-", "-"])
        self.assertEqual(asked(ranks, 0b0001, 0).shown(names), ["usually", "{}", "-"])
        self.assertEqual(asked(ranks, 0, 0b0001).shown(names), ["seldom", "-", "{}"])

    def test_without_names(self):
        self.assertEqual(asked((0,), 1, 0).shown(()), ["usually", "{}", "-"])
        self.assertEqual(asked((0,), 0, 1).shown(()), ["seldom", "-", "{}"])
        self.assertEqual(asked((0,), 0, 0).shown(()), ["never", "-", "-"])
        self.assertEqual(asked((None,), 1, 0).shown(()), ["never", "-", "-"])

    def test_of_no_name_up_to_six(self):
        chance = random.Random(53)
        seen = set()
        for count in range(7):
            names, size = NAMES[:count], 1 << count
            shown = ["{" + " ".join(n for k, n in enumerate(names) if w // 2 ** k % 2) + "}" for w in range(size)]
            for step in range(80):
                ranks = random_ranks(chance, size, chance.getrandbits(size) | chance.getrandbits(size), 3)
                met = chance.choice([0, chance.getrandbits(size), 1 << chance.randrange(size)])
                broken = chance.choice([0, chance.getrandbits(size), 1 << chance.randrange(size)]) & ~met
                word, one, other = expected_answer(ranks, met, broken)
                texts = ["-" if world is None else shown[world] for world in (one, other)]
                told = asked(ranks, met, broken).shown(names)
                self.assertEqual(told, [word] + texts)
                self.assertIs(type(told), list)
                self.assertTrue(all(type(text) is str for text in told))
                seen.update(told)
        self.assertTrue({"usually", "seldom", "open", "never", "-", "{}"} < seen)

    def test_a_new_list_each_time(self):
        answer = asked((0, 1), 1, 2)
        names = ("a",)
        first = answer.shown(names)
        second = answer.shown(names)
        self.assertIsNot(first, second)
        first[0] = "never"
        first.append("more")
        second.clear()
        self.assertEqual(answer.shown(names), ["usually", "{}", "{a}"])
        self.assertEqual((answer.called(), answer.one, answer.other), ("usually", 0, 1))
        self.assertEqual(names, ("a",))

    def test_by_other_names(self):
        answer = asked((0, 1), 1, 2)
        self.assertEqual(answer.shown(("b",)), ["usually", "{}", "{b}"])
        self.assertEqual(answer.shown(("zebra",)), ["usually", "{}", "{zebra}"])


class Interface(unittest.TestCase):
    def test_classes(self):
        for kind in KINDS.values():
            self.assertEqual(kind.__bases__, (Answer,))
        self.assertEqual(Answer.__bases__, (object,))

    def test_arguments(self):
        self.assertEqual(str(inspect.signature(asked)), "(ranks, met, broken)")
        for kind in [Answer] + list(KINDS.values()):
            self.assertEqual(str(inspect.signature(kind.called)), "(self)")
            self.assertEqual(str(inspect.signature(kind.shown)), "(self, names)")


if __name__ == "__main__":
    unittest.main()
