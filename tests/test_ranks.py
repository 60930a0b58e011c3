"""Points 2, 14 and 15: least ranks, what fits, and the least ranking."""

import copy
import inspect
import itertools
import random
import unittest

from samples import (ALL, BIG, PENGUINS, backwards, bits, chain, expected_misfit, expected_ranks, has_fitting, mask_of,
                     random_frame, random_ranks, rankings, ring, rules_over, side_by_side, small_frames, whole)
from wontbook.books import read_book
from wontbook.frames import frame_of
from wontbook.ranks import least, misfit, ranking


class Least(unittest.TestCase):
    def test_no_world(self):
        for ranks in ((0,), (None,), (3, None, 0), (None,) * 64, (BIG,) * 64):
            self.assertIsNone(least(ranks, 0))

    def test_worlds_without_a_rank(self):
        self.assertIsNone(least((None,), 1))
        self.assertIsNone(least((0, None, 0, None), 0b1010))
        self.assertIsNone(least((None,) * 64, ALL))
        self.assertEqual(least((None, 4, None), 0b111), 4)
        self.assertEqual(least((None, 4, 0), 0b011), 4)

    def test_by_hand(self):
        ranks = (5, 3, None, 3, 0, 7)
        self.assertEqual(least(ranks, 0b111111), 0)
        self.assertEqual(least(ranks, 0b101111), 3)
        self.assertEqual(least(ranks, 0b100101), 5)
        self.assertEqual(least(ranks, 0b100000), 7)
        self.assertEqual(least(ranks, 0b010100), 0)
        self.assertEqual(least((0,), 1), 0)
        self.assertIs(type(least((0,), 1)), int)
        self.assertIs(type(least((1,), 1)), int)

    def test_ranks_of_eighty_figures(self):
        self.assertEqual(least((BIG, BIG - 1, None), 0b111), BIG - 1)
        self.assertEqual(least((BIG, BIG - 1, None), 0b101), BIG)
        self.assertEqual(least((BIG,) * 63 + (BIG - 1,), ALL), BIG - 1)
        self.assertEqual(least((BIG,) * 63 + (BIG - 1,), ALL >> 1), BIG)

    def test_many(self):
        chance = random.Random(41)
        for step in range(500):
            size = chance.choice([1, 2, 8, 64])
            ranks = random_ranks(chance, size, chance.getrandbits(size), chance.choice([2, 50, BIG]))
            mask = chance.getrandbits(size) & chance.getrandbits(size)
            found = sorted(ranks[world] for world in bits(mask) if ranks[world] is not None)
            self.assertEqual(least(ranks, mask), found[0] if found else None)


class Misfit(unittest.TestCase):
    def test_without_rules(self):
        self.assertIsNone(misfit((1, 1, ()), (0,)))
        self.assertIsNone(misfit((1, 0, ()), (None,)))
        self.assertIsNone(misfit((64, ALL, ()), (BIG,) * 64))

    def test_one_rule(self):
        frame = (3, 7, ((0b001, 0b010),))
        self.assertIsNone(misfit(frame, (0, 1, 0)))
        self.assertIsNone(misfit(frame, (4, 5, 0)))
        self.assertEqual(misfit(frame, (1, 1, 0)), 0)
        self.assertEqual(misfit(frame, (0, 0, 0)), 0)
        self.assertEqual(misfit(frame, (1, 0, 0)), 0)

    def test_the_least_rank_on_either_side(self):
        frame = (4, 15, ((0b0011, 0b1100),))
        self.assertIsNone(misfit(frame, (9, 1, 2, 3)))
        self.assertIsNone(misfit(frame, (1, 9, 3, 2)))
        self.assertEqual(misfit(frame, (2, 9, 2, 3)), 0)
        self.assertEqual(misfit(frame, (9, 2, 3, 2)), 0)
        self.assertEqual(misfit(frame, (2, 2, 9, 1)), 0)

    def test_without_a_met_world(self):
        self.assertEqual(misfit((2, 3, ((0, 2),)), (0, 1)), 0)
        self.assertEqual(misfit((2, 3, ((0, 0),)), (0, 1)), 0)
        self.assertEqual(misfit((2, 0, ((0, 0),)), (None, None)), 0)
        self.assertEqual(misfit((2, 3, ((1, 2), (0, 0))), (0, 1)), 1)

    def test_without_a_broken_world(self):
        self.assertIsNone(misfit((2, 3, ((1, 0),)), (0, 1)))
        self.assertIsNone(misfit((2, 3, ((2, 0),)), (0, BIG)))
        self.assertIsNone(misfit((2, 2, ((2, 0),)), (None, 0)))

    def test_the_first_of_several(self):
        fits, other = (1, 2), (2, 1)
        for rules, first in (((fits, fits), None), ((fits, other), 1), ((other, fits), 0), ((other, other), 0),
                             ((fits,) * 20 + (other,), 20), ((fits,) * 21, None), ((fits, other, fits, other), 1)):
            self.assertEqual(misfit((2, 3, rules), (0, 1)), first)
            self.assertIs(type(misfit((2, 3, rules), (0, 1))), type(first))

    def test_ranks_of_eighty_figures(self):
        frame = (2, 3, ((1, 2),))
        self.assertIsNone(misfit(frame, (BIG - 1, BIG)))
        self.assertEqual(misfit(frame, (BIG, BIG)), 0)
        self.assertEqual(misfit(frame, (BIG, BIG - 1)), 0)

    def test_many(self):
        chance = random.Random(42)
        told = []
        for step in range(800):
            frame = random_frame(chance, chance.choice([1, 2, 5, 64]), chance.randint(0, 21))
            ranks = random_ranks(chance, frame[0], frame[1], chance.choice([1, 3, 40, BIG]))
            kept = copy.deepcopy((frame, ranks))
            told.append(misfit(frame, ranks))
            self.assertEqual(told[-1], expected_misfit(frame, ranks))
            self.assertTrue(whole(told[-1]))
            self.assertEqual((frame, ranks), kept)
        self.assertGreater(len(set(told)), 4)


class Ranking(unittest.TestCase):
    def checked(self, frame):
        """A ranking as point 15 tells it, by levels told once more."""
        kept = copy.deepcopy(frame)
        told = ranking(frame)
        self.assertEqual(frame, kept)
        self.assertEqual(told, expected_ranks(frame), frame)
        if told is None:
            return None
        self.assertIs(type(told), tuple)
        self.assertTrue(whole(told))
        self.assertIsNone(misfit(frame, told))
        self.assertIsNone(expected_misfit(frame, told))
        return told

    def test_without_rules(self):
        self.assertEqual(ranking((1, 1, ())), (0,))
        self.assertEqual(ranking((1, 0, ())), (None,))
        self.assertEqual(ranking((64, ALL, ())), (0,) * 64)
        self.assertEqual(ranking((64, 0, ())), (None,) * 64)
        self.assertEqual(ranking((4, 0b1010, ())), (None, 0, None, 0))

    def test_the_penguins(self):
        self.assertEqual(ranking(frame_of(read_book(PENGUINS))), (0, 1, 0, 0, None, 1, None, 2))

    def test_nothing_is_broken(self):
        self.assertEqual(ranking((2, 3, ((1, 0), (2, 0), (3, 0)))), (0, 0))
        self.assertEqual(ranking((3, 5, ((1, 0),))), (0, None, 0))

    def test_the_greatest_level_of_what_is_broken(self):
        # The last world breaks rules of the levels 0 and 2, told in either order.
        frame = (5, 31, ((1, 2 + 16), (2, 4), (4, 8 + 16)))
        self.assertEqual(ranking(frame), (0, 1, 2, 3, 3))
        self.assertEqual(ranking(backwards(frame)), (0, 1, 2, 3, 3))

    def test_chains(self):
        for count in range(22):
            self.assertEqual(self.checked(chain(count)), tuple(range(count + 1)))
            self.assertEqual(self.checked(backwards(chain(count))), tuple(range(count + 1)))

    def test_none_where_the_frame_is_torn(self):
        self.assertIsNone(ranking((1, 1, ((0, 0),))))
        self.assertIsNone(ranking((1, 1, ((0, 1),))))
        self.assertIsNone(ranking((64, 0, ((0, 0),) * 21)))
        for count in range(2, 22):
            self.assertIsNone(ranking(ring(count)))
        self.assertIsNone(ranking(side_by_side(chain(5), ring(2))))
        self.assertIsNone(ranking(frame_of(read_book("where a usually b\nwhere a usually not b"))))

    def least_of_all(self, frame):
        told = self.checked(frame)
        # One rank more than is ever needed, so that rankings with gaps are among them, too.
        for ranks in rankings(frame[0], frame[1], frame[0]):
            if misfit(frame, ranks) is None:
                self.assertIsNotNone(told, (frame, ranks))
                pairs = [(low, rank) for low, rank in zip(told, ranks) if low is not None]
                self.assertTrue(all(low <= rank for low, rank in pairs), (frame, ranks))
        self.assertEqual(told is not None, has_fitting(frame), frame)

    def test_no_fitting_ranking_goes_below(self):
        for frame in small_frames():
            self.least_of_all(frame)

    def test_no_fitting_ranking_goes_below_with_three_rules(self):
        for rules in itertools.combinations_with_replacement(rules_over(7)[1:], 3):
            if all(met for met, broken in rules):
                self.least_of_all((3, 7, rules))

    def test_no_fitting_ranking_goes_below_with_four_worlds(self):
        chance = random.Random(43)
        for step in range(120):
            self.least_of_all(random_frame(chance, 4, chance.randint(1, 6), 0.5, 0.3, 0.05))

    def test_many_frames(self):
        chance = random.Random(44)
        seen = {}
        for step in range(500):
            size, count = chance.choice([1, 3, 8, 64]), chance.randint(0, 21)
            told = self.checked(random_frame(chance, size, count, chance.uniform(0.1, 0.5), chance.uniform(0, 0.3)))
            seen[None if told is None else max([rank or 0 for rank in told])] = True
        self.assertIn(None, seen)
        self.assertGreater(len(seen), 3)

    def test_asked_again(self):
        frame = side_by_side(chain(6), chain(3))
        self.assertEqual(ranking(frame), ranking(copy.deepcopy(frame)))
        self.assertEqual(ranking(frame), (0, 1, 2, 3, 4, 5, 6, 0, 1, 2, 3))
        self.assertEqual(least(ranking(frame), mask_of([5, 10])), 3)


class Interface(unittest.TestCase):
    def test_arguments(self):
        self.assertEqual(str(inspect.signature(least)), "(ranks, mask)")
        self.assertEqual(str(inspect.signature(misfit)), "(frame, ranks)")
        self.assertEqual(str(inspect.signature(ranking)), "(frame)")


if __name__ == "__main__":
    unittest.main()
