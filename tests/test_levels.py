"""Points 2, 12 and 13: levels, torn rules and cores."""

import copy
import inspect
import itertools
import random
import unittest

from samples import (ALL, PENGUINS, alone, backwards, bits, chain, expected_levels, has_fitting, random_frame, ring,
                     rules_over, side_by_side, small_frames, whole)
from wontbook.books import read_book
from wontbook.frames import frame_of
from wontbook.levels import core, let_by, levels


def expected_let_by(frame, among, rule):
    """Point 12 told once more, world by world."""
    for world in range(frame[0]):
        breaks = [number for number in among if world in bits(frame[2][number][1])]
        if world in bits(frame[2][rule][0]) and not breaks:
            return world
    return None


class LetBy(unittest.TestCase):
    def test_by_hand(self):
        frame = (8, 255, ((0b11110000, 0b00001111), (0b00001100, 0b00110000), (0b10000001, 0b01000000)))
        self.assertEqual(let_by(frame, [], 0), 4)
        self.assertEqual(let_by(frame, [1], 0), 6)
        self.assertEqual(let_by(frame, [1, 2], 0), 7)
        self.assertEqual(let_by(frame, [2, 1], 0), 7)
        self.assertEqual(let_by(frame, [0], 0), 4)
        self.assertEqual(let_by(frame, [], 1), 2)
        self.assertEqual(let_by(frame, [2, 1], 1), 2)
        self.assertIsNone(let_by(frame, [0], 1))
        self.assertIsNone(let_by(frame, [2, 0, 1], 1))
        self.assertEqual(let_by(frame, [], 2), 0)
        self.assertEqual(let_by(frame, [0], 2), 7)

    def test_the_least_world_by_number(self):
        for world in range(64):
            above = ALL >> world << world
            self.assertEqual(let_by((64, ALL, ((above, 0),)), [0], 0), world)
            self.assertEqual(let_by((64, ALL, ((ALL, 0), (above, ALL - above))), [1], 0), world)

    def test_among_in_any_order_and_again(self):
        chance = random.Random(31)
        for step in range(150):
            frame = random_frame(chance, chance.randint(1, 10), chance.randint(1, 5))
            rules = range(len(frame[2]))
            rule = chance.choice(rules)
            among = sorted(chance.sample(rules, chance.randint(0, len(rules))))
            told = expected_let_by(frame, among, rule)
            for order in itertools.permutations(among):
                for given in (list(order), list(order) * 2, list(order) + list(order[:1])):
                    kept = list(given)
                    self.assertEqual(let_by(frame, given, rule), told)
                    self.assertEqual(given, kept)

    def test_empty_sets(self):
        frame = (2, 3, ((0, 0), (0, 3), (3, 0), (2, 1)))
        for among in ([], [0], [2], [0, 2, 3], [3]):
            self.assertIsNone(let_by(frame, among, 0))
            self.assertIsNone(let_by(frame, among, 1))
        self.assertEqual(let_by(frame, [], 2), 0)
        self.assertEqual(let_by(frame, [0, 2], 2), 0)
        self.assertEqual(let_by(frame, [0, 2, 3], 2), 1)
        self.assertIsNone(let_by(frame, [0, 1, 2], 2))

    def test_world_0_is_told_and_is_no_truth(self):
        self.assertIs(type(let_by((1, 1, ((1, 0),)), [], 0)), int)
        self.assertEqual(let_by((1, 1, ((1, 0),)), [], 0), 0)
        self.assertEqual(let_by((1, 1, ((1, 0),)), [0], 0), 0)

    def test_many_frames(self):
        chance = random.Random(32)
        told = []
        for step in range(600):
            frame = random_frame(chance, chance.choice([1, 2, 5, 20, 64]), chance.randint(1, 21))
            among = chance.choices(range(len(frame[2])), k=chance.randint(0, 8))
            rule = chance.randrange(len(frame[2]))
            told.append(let_by(frame, among, rule))
            self.assertEqual(told[-1], expected_let_by(frame, among, rule))
            self.assertTrue(whole(told[-1]))
        self.assertGreater(told.count(None), 50)
        self.assertGreater(len(set(told)), 20)


class Levels(unittest.TestCase):
    def same(self, frame):
        kept = copy.deepcopy(frame)
        told = levels(frame)
        self.assertEqual(told, expected_levels(frame), frame)
        self.assertIs(type(told), tuple)
        self.assertTrue(whole(told))
        self.assertEqual(frame, kept)
        return told

    def test_without_rules(self):
        for frame in ((1, 0, ()), (1, 1, ()), (64, ALL, ()), (64, 0, ())):
            self.assertEqual(levels(frame), ())

    def test_the_penguins(self):
        self.assertEqual(levels(frame_of(read_book(PENGUINS))), (0, 1))
        self.assertEqual(levels(frame_of(read_book(PENGUINS + "\nwhere bird usually wings"))), (0, 1, 0))
        self.assertEqual(levels(frame_of(read_book("where a usually b\nwhere a usually not b\nwhere c usually b"))),
                         (None, None, 0))

    def test_frames_of_one_world(self):
        self.assertEqual(levels((1, 1, ((1, 0),))), (0,))
        self.assertEqual(levels((1, 1, ((0, 1),))), (None,))
        self.assertEqual(levels((1, 1, ((0, 0),))), (None,))
        self.assertEqual(levels((1, 1, ((1, 0), (0, 1)))), (None, None))
        self.assertEqual(levels((1, 1, ((1, 0), (0, 0)))), (0, None))
        self.assertEqual(levels((1, 1, ((1, 0),) * 21)), (0,) * 21)
        self.assertEqual(levels((1, 0, ((0, 0),) * 21)), (None,) * 21)

    def test_a_met_set_a_broken_set_or_both_empty(self):
        self.assertEqual(levels((4, 15, ((1, 0), (2, 4)))), (0, 0))
        self.assertEqual(levels((4, 15, ((0, 0), (2, 4)))), (None, 0))
        self.assertEqual(levels((4, 15, ((0, 2), (2, 4)))), (None, None))
        self.assertEqual(levels((4, 15, ((0, 8), (2, 4)))), (None, 0))

    def test_no_possible_world(self):
        for count in (1, 2, 21):
            self.assertEqual(levels((64, 0, ((0, 0),) * count)), (None,) * count)

    def test_rules_that_are_alike(self):
        self.assertEqual(levels((4, 15, ((1, 2),) * 5)), (0,) * 5)
        self.assertEqual(levels((4, 15, ((1, 2), (2, 4), (1, 2), (2, 4)))), (0, 1, 0, 1))
        self.assertEqual(levels((4, 15, ((1, 2), (2, 1), (1, 2)))), (None, None, None))

    def test_as_many_levels_as_rules(self):
        for count in range(1, 22):
            rising = tuple(range(count))
            self.assertEqual(levels(chain(count)), rising)
            self.assertEqual(levels(backwards(chain(count))), rising[::-1])

    def test_several_rules_of_a_level(self):
        two = side_by_side(chain(10), chain(10))
        self.assertEqual(levels(two), tuple(range(10)) * 2)
        self.assertEqual(levels(backwards(two)), tuple(range(9, -1, -1)) * 2)

    def test_all_torn_some_torn_none_torn(self):
        for count in range(2, 22):
            self.assertEqual(levels(ring(count)), (None,) * count)
        self.assertEqual(levels(side_by_side(ring(5), chain(4))), (None,) * 5 + (0, 1, 2, 3))
        self.assertEqual(levels(side_by_side(chain(4), ring(5))), (0, 1, 2, 3) + (None,) * 5)
        # The third is met only where the second is broken, which never goes out; the last two are a chain apart.
        frame = (6, 63, ((1, 2), (2, 1), (1, 4), (8, 16), (16, 32)))
        self.assertEqual(levels(frame), (None, None, None, 0, 1))

    def test_a_rule_that_its_own_round_keeps_back(self):
        # The second is let by once the first is out, not in the same round.
        self.assertEqual(levels((3, 7, ((1, 2), (2, 4)))), (0, 1))
        self.assertEqual(levels((3, 7, ((2, 4), (1, 2)))), (1, 0))

    def test_every_small_frame(self):
        for frame in small_frames():
            self.assertEqual(levels(frame), expected_levels(frame), frame)

    def test_many_frames(self):
        chance = random.Random(33)
        seen = {}
        for step in range(700):
            size, count = chance.choice([1, 3, 6, 12, 64]), chance.randint(0, 21)
            frame = random_frame(chance, size, count, chance.uniform(0, 0.4), chance.uniform(0, 0.3), chance.random() / 2)
            told = self.same(frame)
            seen[(None in told, max([level or 0 for level in told], default=0))] = True
        self.assertGreater(len(seen), 5)

    def test_frames_of_64_worlds_and_21_rules(self):
        chance = random.Random(34)
        for step in range(60):
            # Rules that may only be broken above what meets them: none is torn.
            rules = []
            for _ in range(21):
                low = chance.randrange(40)
                broken = chance.getrandbits(64) >> low + 1 << low + 1
                rules.append(((1 << low) | chance.getrandbits(64) & ~broken, broken))
            self.assertNotIn(None, self.same((64, ALL, tuple(rules))))


class Cores(unittest.TestCase):
    def checked(self, frame):
        """A core as point 13 asks it, by levels told once more."""
        kept = copy.deepcopy(frame)
        told = core(frame)
        self.assertEqual(frame, kept)
        if None not in expected_levels(frame):
            self.assertIsNone(told, frame)
            return None
        self.assertIs(type(told), tuple)
        self.assertTrue(all(type(number) is int for number in told), told)
        self.assertEqual(list(told), sorted(set(told)))
        self.assertLessEqual(set(told), set(range(len(frame[2]))))
        self.assertIn(None, expected_levels(alone(frame, told)))
        for left_out in told:
            others = [number for number in told if number != left_out]
            self.assertNotIn(None, expected_levels(alone(frame, others)), (frame, told))
        return told

    def test_none_where_the_frame_is_not_torn(self):
        for frame in ((1, 0, ()), (1, 1, ()), (64, ALL, ()), (1, 1, ((1, 0),)), chain(21), backwards(chain(21))):
            self.assertIsNone(core(frame))
        self.assertIsNone(core(frame_of(read_book(PENGUINS))))

    def test_the_only_core(self):
        self.assertEqual(core((1, 1, ((0, 0),))), (0,))
        self.assertEqual(core((2, 3, ((1, 2), (0, 1), (1, 0)))), (1,))
        self.assertEqual(core((2, 3, ((1, 2), (2, 1)))), (0, 1))
        self.assertEqual(core(frame_of(read_book("where c usually b\nwhere a usually b\nwhere a usually not b"))), (1, 2))
        for count in range(2, 22):
            self.assertEqual(core(ring(count)), tuple(range(count)))
            self.assertEqual(core(backwards(ring(count))), tuple(range(count)))
        self.assertEqual(core(side_by_side(chain(4), ring(5))), (4, 5, 6, 7, 8))
        self.assertEqual(core(side_by_side(ring(5), chain(4))), (0, 1, 2, 3, 4))

    def test_torn_rules_that_are_in_no_core(self):
        # The third is torn with the two others, which are torn without it.
        self.assertEqual(levels((4, 15, ((1, 2), (2, 1), (1, 4)))), (None, None, None))
        self.assertEqual(core((4, 15, ((1, 2), (2, 1), (1, 4)))), (0, 1))
        self.assertEqual(core((4, 15, ((1, 4), (1, 2), (2, 1)))), (1, 2))

    def test_one_of_several(self):
        self.assertIn(self.checked((2, 3, ((0, 0), (0, 1)))), ((0,), (1,)))
        self.assertIn(self.checked((2, 3, ((1, 2), (2, 1), (1, 2)))), ((0, 1), (1, 2)))
        two = side_by_side(ring(4), ring(3))
        self.assertIn(self.checked(two), ((0, 1, 2, 3), (4, 5, 6)))
        self.assertIn(self.checked((64, 0, ((0, 0),) * 21)), tuple((k,) for k in range(21)))

    def test_every_small_frame(self):
        for frame in small_frames():
            self.checked(frame)

    def test_torn_where_no_ranking_fits(self):
        for rules in itertools.combinations_with_replacement(rules_over(7), 3):
            frame = (3, 7, rules)
            self.assertEqual(self.checked(frame) is None, has_fitting(frame), frame)

    def test_many_frames(self):
        chance = random.Random(35)
        sizes = {}
        for step in range(400):
            size, count = chance.choice([2, 4, 8, 64]), chance.randint(1, 21)
            met, broken = chance.choice([(0.15, 0.15), (0.08, 0.3), (0.04, 0.2), (0.3, 0.3)])
            told = self.checked(random_frame(chance, size, count, met, broken))
            sizes[None if told is None else len(told)] = True
        self.assertIn(None, sizes)
        self.assertGreater(len(sizes), 5)

    def test_large_cores(self):
        chance = random.Random(36)
        for step in range(40):
            frame = side_by_side(ring(chance.randint(2, 8)), ring(chance.randint(2, 8)))
            frame = side_by_side(frame, chain(chance.randint(1, 5)))
            rules = list(frame[2])
            chance.shuffle(rules)
            self.checked((frame[0], frame[1], tuple(rules)))

    def test_asked_again(self):
        frame = side_by_side(ring(4), ring(3))
        self.assertEqual(core(frame), core(copy.deepcopy(frame)))
        self.assertEqual(levels(frame), levels(frame))


class Interface(unittest.TestCase):
    def test_arguments(self):
        self.assertEqual(str(inspect.signature(let_by)), "(frame, among, rule)")
        self.assertEqual(str(inspect.signature(levels)), "(frame)")
        self.assertEqual(str(inspect.signature(core)), "(frame)")


if __name__ == "__main__":
    unittest.main()
