"""Points 2, 21, 22 and 23: news, its firmness, what is believed, and the diary."""

import copy
import inspect
import random
import unittest

from samples import ALL, BIG, expected_believed, expected_firmness, expected_shifted, random_ranks, rankings, whole
from wontbook.errors import NoNews, WontError
from wontbook.news import Diary, believed, firmness, shifted


def drawn(chance):
    size = chance.choice([1, 2, 3, 5, 16, 64])
    ranks = random_ranks(chance, size, chance.getrandbits(size) | chance.getrandbits(size),
                         chance.choice([0, 2, 9, BIG]))
    news = chance.choice([0, (1 << size) - 1, chance.getrandbits(size), chance.getrandbits(size),
                          1 << chance.randrange(size)])
    return ranks, news


class Case(unittest.TestCase):
    def refused(self, call, *given):
        with self.assertRaises(WontError, msg=repr(given)) as caught:
            call(*given)
        self.assertIs(type(caught.exception), NoNews, given)

    def checked(self, ranks, news, firm):
        """All that is told of news, held against points 21 and 22."""
        kept = copy.deepcopy(ranks)
        place = (ranks, news, firm)
        told = firmness(ranks, news)
        self.assertEqual(told, expected_firmness(ranks, news), place)
        self.assertTrue(whole(told), place)
        self.assertIs(believed(ranks, news), expected_believed(ranks, news), place)
        expected = expected_shifted(ranks, news, firm)
        if expected is None:
            self.refused(shifted, ranks, news, firm)
        else:
            self.assert_shifted(shifted(ranks, news, firm), expected, news, firm)
        self.assertEqual(ranks, kept)
        return told

    def assert_shifted(self, told, expected, news, firm):
        self.assertEqual(told, expected)
        self.assertIs(type(told), tuple)
        self.assertTrue(whole(told))
        self.assertEqual(min(rank for rank in told if rank is not None), 0)
        self.assertEqual(firmness(told, news), firm)
        self.assertIs(believed(told, news), firm > 0)


class Firmness(Case):
    def test_above_at_and_below_nought(self):
        ranks = (0, 1, 3, 3, None)
        self.assertEqual(firmness(ranks, 0b00001), 1)
        self.assertEqual(firmness(ranks, 0b00011), 3)
        self.assertEqual(firmness(ranks, 0b00010), -1)
        self.assertEqual(firmness(ranks, 0b01100), -3)
        self.assertEqual(firmness((2, 2, 5), 0b001), 0)
        self.assertEqual(firmness((2, 2, 5), 0b110), 0)
        self.assertEqual(firmness((7, 2), 0b10), 5)

    def test_contraries(self):
        chance = random.Random(71)
        for step in range(300):
            ranks, news = drawn(chance)
            told = firmness(ranks, news)
            contrary = firmness(ranks, ((1 << len(ranks)) - 1) & ~news)
            self.assertEqual(contrary, None if told is None else -told)

    def test_news_that_is_refused(self):
        self.assertIsNone(firmness((0, 1), 0))
        self.assertIsNone(firmness((0, 1), 3))
        self.assertIsNone(firmness((None, 0, 1), 0b001))
        self.assertIsNone(firmness((None, 0, 1), 0b110))
        self.assertIsNone(firmness((None, 0, 1), 0b111))
        self.assertIsNone(firmness((None, 0), 0b10))
        self.assertIsNone(firmness((0,), 0))
        self.assertIsNone(firmness((0,), 1))
        self.assertIsNone(firmness((None,), 0))
        self.assertIsNone(firmness((None,), 1))
        self.assertIsNone(firmness((None,) * 64, ALL >> 32))

    def test_ranks_of_eighty_figures(self):
        self.assertEqual(firmness((BIG, BIG - 1), 1), -1)
        self.assertEqual(firmness((BIG, BIG - 1), 2), 1)
        self.assertEqual(firmness((0, BIG), 1), BIG)
        self.assertEqual(firmness((0, BIG), 2), -BIG)
        self.assertEqual(firmness((BIG, BIG), 2), 0)
        self.assertEqual(firmness((BIG,) * 63 + (0,), 1 << 63), BIG)


class Believed(Case):
    def test_each_world_of_the_least_rank(self):
        ranks = (0, 0, 1, None)
        for news, told in ((0b0011, True), (0b0111, True), (0b1011, True), (0b1111, True), (0b0001, False),
                           (0b0010, False), (0b0101, False), (0b0100, False), (0b1000, False), (0b0000, False),
                           (0b1101, False)):
            self.assertIs(believed(ranks, news), told, news)

    def test_where_the_least_rank_is_above_nought(self):
        self.assertIs(believed((4, 3), 2), True)
        self.assertIs(believed((4, 3), 1), False)
        self.assertIs(believed((3, 3), 1), False)
        self.assertIs(believed((3, 3), 3), True)
        self.assertIs(believed((BIG, BIG - 1), 2), True)
        self.assertIs(believed((BIG, BIG - 1), 1), False)

    def test_ranks_without_a_ranked_world(self):
        for size in (1, 2, 64):
            for news in (0, 1, (1 << size) - 1):
                self.assertIs(believed((None,) * size, news), True)

    def test_all_and_none(self):
        for ranks in ((0,), (0, 1), (5, None, 5), (BIG,) * 64):
            self.assertIs(believed(ranks, (1 << len(ranks)) - 1), True)
            self.assertIs(believed(ranks, 0), False)
        self.assertIs(believed((None, 5, None), 0b010), True)
        self.assertIs(believed((None, 5, None), 0b101), False)

    def test_news_is_believed_where_its_firmness_is_above_nought(self):
        for possible in range(8):
            for ranks in rankings(3, possible, 2):
                for news in range(8):
                    told = firmness(ranks, news)
                    if told is not None:
                        self.assertIs(believed(ranks, news), told > 0, (ranks, news))
                        self.assertIs(believed(ranks, 7 & ~news), told < 0, (ranks, news))


class Shifted(Case):
    def test_by_hand(self):
        ranks = (0, 1, 3, 4, None)
        self.assertEqual(shifted(ranks, 0b01100, 2), (2, 3, 0, 1, None))
        self.assertEqual(shifted(ranks, 0b11100, 2), (2, 3, 0, 1, None))
        self.assertEqual(shifted(ranks, 0b00011, 7), (0, 1, 7, 8, None))
        self.assertEqual(shifted(ranks, 0b00010, 1), (1, 0, 4, 5, None))
        self.assertEqual(shifted((5, 6), 1, 3), (0, 3))

    def test_a_firmness_of_nought(self):
        self.assertEqual(shifted((0, 1, 3), 0b100, 0), (0, 1, 0))
        self.assertEqual(shifted((0, 1, 3), 0b001, 0), (0, 0, 2))
        self.assertEqual(shifted((4, 4), 1, 0), (0, 0))

    def test_the_firmness_told_before_changes_nothing_but_the_least_rank(self):
        self.assertEqual(shifted((0, 1, 3), 0b001, 1), (0, 1, 3))
        self.assertEqual(shifted((2, 3, 5), 0b001, 1), (0, 1, 3))

    def test_eighty_figures(self):
        self.assertEqual(shifted((0, BIG), 2, BIG), (BIG, 0))
        self.assertEqual(shifted((0, BIG, BIG), 1, BIG), (0, BIG, BIG))
        self.assertEqual(shifted((0, 1, BIG), 1, BIG), (0, BIG, 2 * BIG - 1))
        self.assertEqual(shifted((BIG, BIG - 1, 0, None), 0b0011, BIG), (1, 0, BIG, None))

    def test_news_that_is_refused(self):
        for ranks, news in (((0, 1), 0), ((0, 1), 3), ((None, 0, 1), 0b001), ((None, 0, 1), 0b110), ((0,), 1),
                            ((0,), 0),
                            ((None, 0, 1), 0b111), ((None,), 1), ((None,), 0), ((None,) * 64, ALL), ((BIG,) * 64, ALL),
                            ((BIG,) * 64, 0), ((None, 5, None), 0b010), ((None, 5, None), 0b101)):
            for firm in (0, 1, BIG):
                self.refused(shifted, ranks, news, firm)

    def test_every_ranking_of_three_worlds(self):
        for possible in range(8):
            for ranks in rankings(3, possible, 2):
                for news in range(8):
                    for firm in (0, 1, 4):
                        self.checked(ranks, news, firm)

    def test_many(self):
        chance = random.Random(72)
        told = []
        for step in range(1200):
            ranks, news = drawn(chance)
            told.append(self.checked(ranks, news, chance.choice([0, 1, 7, BIG, chance.randint(0, BIG)])))
        self.assertGreater(told.count(None), 100)
        self.assertGreater(told.count(0), 50)
        self.assertGreater(sum(firm is not None and firm > 0 for firm in told), 50)
        self.assertGreater(sum(firm is not None and firm < 0 for firm in told), 50)


class Diaries(Case):
    def test_begun(self):
        for ranks in ((0,), (None,), (4, None, 2), (BIG,) * 64):
            diary = Diary(ranks)
            self.assertEqual(diary.now(), ranks)
            self.assertEqual(diary.taken(), [])

    def test_heard_and_forgotten(self):
        diary = Diary((0, 1, 3))
        self.assertIsNone(diary.heard(0b100, 2))
        self.assertEqual(diary.now(), (2, 3, 0))
        self.assertEqual(diary.taken(), [(0b100, 2)])
        self.assertIsNone(diary.heard(0b010, 0))
        self.assertEqual(diary.now(), (2, 0, 0))
        self.assertEqual(diary.taken(), [(0b100, 2), (0b010, 0)])
        self.assertIsNone(diary.forgot())
        self.assertEqual(diary.now(), (2, 3, 0))
        self.assertEqual(diary.taken(), [(0b100, 2)])
        self.assertIsNone(diary.heard(0b011, 5))
        self.assertEqual(diary.now(), (0, 1, 5))
        self.assertEqual(diary.taken(), [(0b100, 2), (0b011, 5)])
        diary.forgot()
        diary.forgot()
        self.assertEqual(diary.now(), (0, 1, 3))
        self.assertEqual(diary.taken(), [])

    def test_the_ranks_of_the_begin_come_back(self):
        # Not so by any shift: their least rank is above nought.
        diary = Diary((7, 9, None))
        diary.heard(0b001, 2)
        self.assertEqual(diary.now(), (0, 2, None))
        diary.forgot()
        self.assertEqual(diary.now(), (7, 9, None))

    def test_nothing_to_forget(self):
        diary = Diary((3, 4))
        self.refused(diary.forgot)
        self.refused(diary.forgot)
        diary.heard(1, 5)
        diary.heard(2, 0)
        diary.forgot()
        diary.forgot()
        self.refused(diary.forgot)
        self.assertEqual((diary.now(), diary.taken()), ((3, 4), []))
        diary.heard(2, 1)
        self.assertEqual((diary.now(), diary.taken()), ((1, 0), [(2, 1)]))

    def test_what_is_refused_changes_nothing(self):
        diary = Diary((0, 1, None))
        for news in (0, 0b011, 0b100, 0b111):
            self.refused(diary.heard, news, 3)
            self.assertEqual((diary.now(), diary.taken()), ((0, 1, None), []))
        diary.heard(0b010, 4)
        for news in (0, 0b011, 0b100, 0b111):
            self.refused(diary.heard, news, 3)
            self.assertEqual((diary.now(), diary.taken()), ((4, 0, None), [(0b010, 4)]))
        diary.forgot()
        self.refused(diary.forgot)
        self.assertEqual((diary.now(), diary.taken()), ((0, 1, None), []))

    def test_without_a_ranked_world(self):
        diary = Diary((None, None))
        for news in range(4):
            self.refused(diary.heard, news, 0)
        self.refused(diary.forgot)
        self.assertEqual((diary.now(), diary.taken()), ((None, None), []))

    def test_the_same_news_again(self):
        diary = Diary((0, 0))
        for step in range(3):
            diary.heard(1, 2)
        self.assertEqual((diary.now(), diary.taken()), ((0, 2), [(1, 2)] * 3))
        diary.forgot()
        self.assertEqual((diary.now(), diary.taken()), ((0, 2), [(1, 2)] * 2))

    def test_taken_is_a_new_list_each_time(self):
        diary = Diary((0, 1))
        empty = diary.taken()
        empty.append((1, 1))
        self.assertEqual(diary.taken(), [])
        self.refused(diary.forgot)
        diary.heard(2, 5)
        first, second = diary.taken(), diary.taken()
        self.assertIsNot(first, second)
        self.assertIs(type(first), list)
        self.assertIs(type(first[0]), tuple)
        self.assertTrue(whole(first[0]))
        first.clear()
        second.append((1, 1))
        self.assertEqual(diary.taken(), [(2, 5)])
        third = diary.taken()
        diary.heard(1, 0)
        self.assertEqual(third, [(2, 5)])
        diary.forgot()
        diary.forgot()
        self.assertEqual(third, [(2, 5)])

    def test_two_diaries_are_apart(self):
        ranks = (0, 1, 2)
        one, other = Diary(ranks), Diary(ranks)
        one.heard(0b100, 3)
        self.assertEqual((other.now(), other.taken()), ((0, 1, 2), []))
        self.refused(other.forgot)
        other.heard(0b010, 1)
        self.assertEqual((one.now(), one.taken()), ((3, 4, 0), [(0b100, 3)]))
        self.assertEqual((other.now(), other.taken()), ((1, 0, 3), [(0b010, 1)]))
        one.forgot()
        self.assertEqual((other.now(), other.taken()), ((1, 0, 3), [(0b010, 1)]))
        self.assertEqual(ranks, (0, 1, 2))

    def test_a_hundred_news(self):
        chance = random.Random(73)
        for most in (3, BIG):
            ranks = random_ranks(chance, 64, ALL - 5, most)
            diary, stages, pairs = Diary(ranks), [ranks], []
            while len(pairs) < 100:
                news, firm = chance.getrandbits(64), chance.choice([0, 1, most, chance.randint(0, most)])
                diary.heard(news, firm)
                pairs.append((news, firm))
                stages.append(expected_shifted(stages[-1], news, firm))
                self.assertEqual((diary.now(), diary.taken()), (stages[-1], pairs))
            while pairs:
                diary.forgot()
                pairs.pop()
                stages.pop()
                self.assertEqual((diary.now(), diary.taken()), (stages[-1], pairs))
            self.refused(diary.forgot)
            self.assertEqual(diary.now(), ranks)

    def test_ranks_have_as_many_figures_as_they_need(self):
        # With each news one of two worlds is put atop the other: the third rises by all of them.
        diary = Diary((0, 0, BIG))
        for step in range(100):
            diary.heard((0b001, 0b010)[step % 2], BIG)
        self.assertEqual(diary.now(), (BIG, 0, 101 * BIG))

    def test_many_steps(self):
        chance = random.Random(74)
        for run in range(40):
            size = chance.choice([1, 2, 3, 8, 64])
            ranks = random_ranks(chance, size, chance.getrandbits(size) | 1, 5)
            diary, stages, pairs = Diary(ranks), [ranks], []
            for step in range(60):
                news, firm = chance.getrandbits(size), chance.randint(0, 4)
                if chance.random() < 0.4:
                    if pairs:
                        diary.forgot()
                        pairs.pop()
                        stages.pop()
                    else:
                        self.refused(diary.forgot)
                elif expected_shifted(stages[-1], news, firm) is None:
                    self.refused(diary.heard, news, firm)
                else:
                    diary.heard(news, firm)
                    pairs.append((news, firm))
                    stages.append(expected_shifted(stages[-1], news, firm))
                self.assertEqual((diary.now(), diary.taken()), (stages[-1], pairs))
            self.assertIs(type(diary.now()), tuple)


class Interface(unittest.TestCase):
    def test_arguments(self):
        self.assertEqual(str(inspect.signature(firmness)), "(ranks, news)")
        self.assertEqual(str(inspect.signature(believed)), "(ranks, news)")
        self.assertEqual(str(inspect.signature(shifted)), "(ranks, news, firm)")
        self.assertEqual(str(inspect.signature(Diary)), "(ranks)")
        self.assertEqual(str(inspect.signature(Diary.heard)), "(self, news, firm)")
        for method in (Diary.forgot, Diary.now, Diary.taken):
            self.assertEqual(str(inspect.signature(method)), "(self)")


if __name__ == "__main__":
    unittest.main()
