"""Points 2, 19 and 20: what follows from a frame's rules."""

import copy
import inspect
import itertools
import random
import unittest

from samples import (ALL, PENGUINS, alone, backwards, bits, chain, expected_levels, expected_misfit, fits_rule, mask_of,
                     random_frame, rankings, ring, rules_over, side_by_side, small_frames)
from wontbook.books import read_book
from wontbook.errors import Torn, WontError
from wontbook.follows import follows
from wontbook.frames import frame_of, rule_of
from wontbook.sentences import read_sentence


def torn(frame):
    return None in expected_levels(frame)


def with_rule(frame, numbers, met, broken):
    """The frame with these of its rules and one more."""
    return (frame[0], frame[1], alone(frame, numbers)[2] + ((met, broken),))


class Case(unittest.TestCase):
    def checked(self, frame, met, broken):
        """What is told, held against point 19 in each of its ways."""
        kept = copy.deepcopy(frame)
        place = (frame, met, broken)
        if torn(frame):
            self.assert_torn(frame, met, broken)
            return None
        told = follows(frame, met, broken)
        self.assertEqual(frame, kept)
        self.assertIs(type(told), tuple, place)
        self.assertIs(type(told[0]), str, place)
        numbers = range(len(frame[2]))
        if met == 0 and broken == 0:
            self.assertEqual(told, ("never",), place)
        elif torn(with_rule(frame, numbers, broken, met)):
            self.assert_part(told, frame, met, broken)
        else:
            self.assert_free(told, frame, met, broken)
        return told[0]

    def assert_torn(self, frame, met, broken):
        with self.assertRaises(WontError, msg=repr(frame)) as caught:
            follows(frame, met, broken)
        self.assertIs(type(caught.exception), Torn)

    def assert_part(self, told, frame, met, broken):
        place = (told, frame, met, broken)
        self.assertEqual((told[0], len(told)), ("follows", 2), place)
        part = told[1]
        self.assertIs(type(part), tuple, place)
        self.assertTrue(all(type(number) is int for number in part), place)
        self.assertEqual(list(part), sorted(set(part)), place)
        self.assertTrue(set(part) <= set(range(len(frame[2]))), place)
        self.assertTrue(torn(with_rule(frame, part, broken, met)), place)
        for number in part:
            fewer = [other for other in part if other != number]
            self.assertFalse(torn(with_rule(frame, fewer, broken, met)), place)

    def assert_free(self, told, frame, met, broken):
        place = (told, frame, met, broken)
        self.assertEqual((told[0], len(told)), ("free", 2), place)
        ranks = told[1]
        self.assertIs(type(ranks), tuple, place)
        self.assertEqual(len(ranks), frame[0], place)
        for world, rank in enumerate(ranks):
            if world in bits(frame[1]):
                self.assertIs(type(rank), int, place)
                self.assertGreaterEqual(rank, 0, place)
            else:
                self.assertIsNone(rank, place)
        self.assertIsNone(expected_misfit(frame, ranks), place)
        self.assertFalse(fits_rule(ranks, met, broken), place)


class ByHand(Case):
    def test_never(self):
        for frame in ((1, 1, ()), (1, 0, ()), (2, 3, ((1, 2),)), (64, ALL, ((1, ALL - 1),) * 20), chain(20)):
            self.assertEqual(follows(frame, 0, 0), ("never",))

    def test_a_rule_of_the_frame(self):
        frame = (4, 15, ((1, 2), (4, 8)))
        self.assertEqual(follows(frame, 1, 2), ("follows", (0,)))
        self.assertEqual(follows(frame, 4, 8), ("follows", (1,)))
        self.assertEqual(self.checked(frame, 1, 8), "free")
        self.assertEqual(self.checked(frame, 2, 1), "free")

    def test_a_part_that_is_empty(self):
        # With no broken world a rule fits wherever it has a met one.
        for rules in ((), ((1, 2),), ((1, 2),) * 20):
            for met in (1, 2, 3, 4, 7):
                self.assertEqual(follows((3, 7, rules), met, 0), ("follows", ()))
        self.assertEqual(follows((1, 1, ()), 1, 0), ("follows", ()))
        self.assertEqual(follows((64, ALL, ()), ALL, 0), ("follows", ()))

    def test_without_a_met_world(self):
        # A rule without a met world fits nothing.
        for rules in ((), ((1, 2),), ((1, 2),) * 20):
            for broken in (1, 2, 3, 4, 7):
                self.assertEqual(self.checked((3, 7, rules), 0, broken), "free")
        self.assertEqual(follows((1, 1, ()), 0, 1), ("free", (0,)))

    def test_a_part_of_several_rules(self):
        for count in range(2, 20):
            frame = (count, (1 << count) - 1, ring(count)[2][:-1])
            last, first = 1 << count - 1, 1
            self.assertEqual(follows(frame, first, last), ("follows", tuple(range(count - 1))))
            self.assertEqual(follows(backwards(frame), first, last), ("follows", tuple(range(count - 1))))
            self.assertEqual(self.checked(frame, last, first), "free")

    def test_a_part_among_other_rules(self):
        frame = side_by_side(chain(5), chain(6))
        self.assertEqual(follows(frame, 1 << 1, 1 << 3), ("follows", (1, 2)))
        self.assertEqual(follows(frame, 1 << 6, 1 << 8), ("follows", (5, 6)))
        self.assertEqual(self.checked(frame, 1 << 1, 1 << 8), "free")

    def test_one_of_two_that_are_alike(self):
        frame = (2, 3, ((1, 2), (1, 2)))
        self.assertIn(follows(frame, 1, 2), (("follows", (0,)), ("follows", (1,))))
        self.assertEqual(self.checked(frame, 1, 2), "follows")

    def test_the_ranking_fits_not_the_rule(self):
        # The least ranking fits the rule, another one does not.
        frame = (3, 7, ((1, 2),))
        self.assertTrue(fits_rule((0, 1, 0), 4, 2))
        self.assertEqual(self.checked(frame, 4, 2), "free")
        self.assertEqual(self.checked(frame, 1, 4), "free")

    def test_the_penguins(self):
        book = read_book(PENGUINS)
        frame = frame_of(book)
        for row, part in ((("penguin", "not fly"), (1,)), (("bird", "fly"), (0,)), (("bird", "not penguin"), (0, 1)),
                          (("penguin", "bird"), ()), (("bird and penguin", "not fly"), (1,)),
                          (("fly", "bird or not penguin"), ()), (("bird or penguin", "fly"), (0,))):
            rule = rule_of(book[0], frame[1], read_sentence(row[0]), read_sentence(row[1]))
            self.assertEqual(follows(frame, *rule), ("follows", part), row)
        for row in (("penguin", "fly"), ("bird", "penguin"), ("fly", "bird"), ("not fly", "not bird"),
                    ("bird and not penguin", "not fly"), ("fly", "penguin and not bird")):
            rule = rule_of(book[0], frame[1], read_sentence(row[0]), read_sentence(row[1]))
            self.assertEqual(self.checked(frame, *rule), "free", row)

    def test_rules_over_no_possible_world(self):
        self.assertEqual(follows((1, 0, ()), 0, 0), ("never",))
        self.assertEqual(follows((64, 0, ()), 0, 0), ("never",))


class TornFrames(Case):
    def test_whatever_the_rule(self):
        for met, broken in rules_over(3):
            self.assert_torn(ring(2), met, broken)
            self.assert_torn((2, 3, ((0, 0),)), met, broken)
            self.assert_torn((2, 3, ((0, 1),)), met, broken)
            self.assert_torn(side_by_side(ring(2), chain(3)), met, broken)
            self.assert_torn(side_by_side(ring(2), chain(3)), met << 3, broken << 3)

    def test_where_both_sets_are_empty(self):
        self.assert_torn(ring(2), 0, 0)
        self.assert_torn(ring(20), 0, 0)
        self.assert_torn((1, 0, ((0, 0),)), 0, 0)
        self.assert_torn((64, 0, ((0, 0),) * 20), 0, 0)
        self.assert_torn((64, ALL, ((0, ALL),)), 0, 0)


class Many(Case):
    def test_every_small_frame_and_rule(self):
        seen = {}
        for frame in small_frames():
            for met, broken in rules_over(frame[1]):
                word = self.checked(frame, met, broken)
                seen[word] = seen.get(word, 0) + 1
        self.assertTrue(all(seen[word] > 100 for word in (None, "never", "follows", "free")), seen)

    def test_one_world(self):
        for possible in (0, 1):
            for count in (0, 1, 20):
                for rule in rules_over(possible):
                    for met, broken in rules_over(possible):
                        self.checked((1, possible, (rule,) * count), met, broken)

    def test_sixty_four_worlds(self):
        chance = random.Random(61)
        seen = {}
        for step in range(240):
            count = chance.choice([0, 1, 5, 12, 20])
            few, many = chance.uniform(0.02, 0.2), chance.uniform(0.05, 0.4)
            frame = random_frame(chance, 64, count, few, many)
            if not torn(frame) and count and chance.random() < 0.7:
                # Parts of the frame's own rules put together are likelier to follow.
                chosen = [frame[2][k] for k in sorted(chance.sample(range(count), min(count, 3)))]
                broken = 0
                for rule in chosen:
                    broken |= rule[1]
                met = mask_of(w for rule in chosen for w in bits(rule[0])) & ~broken
            else:
                sides = {w: chance.random() for w in sorted(bits(frame[1]))}
                met = mask_of(w for w in sides if sides[w] < 0.4)
                broken = mask_of(w for w in sides if sides[w] > chance.choice([0.6, 0.97]))
            word = self.checked(frame, met, broken)
            seen[word] = seen.get(word, 0) + 1
        self.assertGreater(seen["follows"], 20, seen)
        self.assertGreater(seen["free"], 20, seen)

    def test_parts_of_many_rules(self):
        chance = random.Random(62)
        sizes = []
        for step in range(250):
            size = chance.choice([4, 6, 9])
            frame = random_frame(chance, size, chance.randint(2, 8), 0.25, 0.25, 0.0)
            if torn(frame):
                continue
            for met, broken in random_frame(chance, size, 6, 0.35, 0.35, 0.0)[2]:
                if self.checked(frame, met, broken) == "follows":
                    sizes.append(len(follows(frame, met, broken)[1]))
        self.assertTrue({0, 1, 2, 3} <= set(sizes), sizes)

    def test_twenty_rules_that_are_all_needed(self):
        frame = chain(20)
        self.assertEqual(follows(frame, 1, 1 << 20), ("follows", tuple(range(20))))
        self.assertEqual(self.checked(frame, 1 << 20, 1), "free")
        wide = side_by_side(chain(20), (43, (1 << 43) - 1, ()))
        self.assertEqual(wide[0], 64)
        self.assertEqual(follows(wide, 1, 1 << 20), ("follows", tuple(range(20))))
        self.assertEqual(self.checked(wide, 1, 1 << 63), "free")


class Whatever(Case):
    """Point 20: a rule follows just where every ranking that fits the frame fits it."""

    def just_where(self, frame, rules, most):
        fitting = [ranks for ranks in rankings(frame[0], frame[1], most) if expected_misfit(frame, ranks) is None]
        if not fitting:
            return
        for met, broken in rules:
            told = follows(frame, met, broken)[0]
            always = all(fits_rule(ranks, met, broken) for ranks in fitting)
            self.assertEqual(told == "follows", always, (frame, met, broken))

    def test_every_frame_of_up_to_three_worlds(self):
        # Fitting hangs on which ranks are less alone, so ranks below the size are enough.
        for frame in small_frames():
            self.just_where(frame, rules_over(frame[1]), frame[0] - 1)

    def test_frames_of_three_worlds_and_three_rules(self):
        chance = random.Random(63)
        for rules in itertools.combinations(rules_over(7)[1:], 3):
            if chance.random() < 0.15:
                self.just_where((3, 7, rules), rules_over(7), 2)

    def test_drawn_frames_of_four_worlds(self):
        chance = random.Random(64)
        for step in range(60):
            frame = random_frame(chance, 4, chance.randint(0, 4), 0.4, 0.3, 0.1)
            self.just_where(frame, rules_over(frame[1]), 3)


class Kept(Case):
    def test_asked_again(self):
        frame = side_by_side(chain(6), chain(3))
        kept = copy.deepcopy(frame)
        for met, broken in ((1, 8), (8, 1), (0, 0), (1, 0), (1 << 7, 1 << 9)):
            self.assertEqual(follows(frame, met, broken), follows(copy.deepcopy(frame), met, broken))
        self.assertEqual(frame, kept)


class Interface(unittest.TestCase):
    def test_arguments(self):
        self.assertEqual(str(inspect.signature(follows)), "(frame, met, broken)")


if __name__ == "__main__":
    unittest.main()
