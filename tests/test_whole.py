"""Points 1, 2 and 3: what is promised over the whole program, looked at from outside, by the desk's texts alone.

A sentence's text is one of Python's own, too, and is read as such here.
"""

import itertools
import os
import pathlib
import random
import subprocess
import sys
import unittest

from samples import sentence_over
from wontbook.desk import Desk
from wontbook.sentences import shown_sentence

ROOT = pathlib.Path(__file__).resolve().parent.parent


class Told:
    """A book's rows as texts: its names, its possible worlds as tuples of the names so, and where rows are met."""

    def __init__(self, names, rows):
        firm = [row[len("always "):] for row in rows if row.startswith("always ")]
        self.names = names
        self.usual = [row for row in rows if row.startswith("where ")]
        every = [tuple(name for name, so in zip(names, chosen) if so)
                 for chosen in itertools.product((False, True), repeat=len(names))]
        self.possible = [world for world in every if all(self.holds(text, world) for text in firm)]
        self.sides = {row: self.sides_of(row) for row in self.usual}

    def holds(self, text, world):
        return eval(text, {"__builtins__": {}}, {name: name in world for name in self.names})

    def sides_of(self, row):
        first, second = row[len("where "):].split(" usually ")
        inside = [world for world in self.possible if self.holds(first, world)]
        return ([world for world in inside if self.holds(second, world)],
                [world for world in inside if not self.holds(second, world)])

    def fits(self, ranks, sides):
        met, broken = sides
        return bool(met) and (not broken or min(ranks[w] for w in met) < min(ranks[w] for w in broken))

    def fits_all(self, ranks):
        return all(self.fits(ranks, self.sides[row]) for row in self.usual)

    def rankings(self, most):
        for chosen in itertools.product(range(most + 1), repeat=len(self.possible)):
            yield dict(zip(self.possible, chosen))

    def is_torn(self, several):
        """Whether each world that meets one of some rows breaks one of them, there being a row."""
        met = [world for sides in several for world in sides[0]]
        return bool(several) and all(any(world in sides[1] for sides in several) for world in met)

    def torn_by(self, several):
        """Whether some of these rows are torn so."""
        return any(self.is_torn(some) for count in range(1, len(several) + 1)
                   for some in itertools.combinations(several, count))


def read_ranks(texts):
    ranks = {}
    for text in texts:
        world, figures = text[1:].split("} ")
        ranks[tuple(world.split())] = int(figures)
    return ranks


def read_world(text):
    return None if text == "-" else tuple(text[1:-1].split())


def drawn_text(chance, names, deep):
    return shown_sentence(sentence_over(chance, names, chance.randint(1, deep)))


def drawn_rows(chance, names, count, deep=2):
    """Rows with all names of theirs among these, and each of these in one of them."""
    rows = {"always " + " or ".join(f"{name} or not {name}" for name in names): True}
    for step in range(count):
        first, second = drawn_text(chance, names, deep), drawn_text(chance, names, deep)
        rows[chance.choice([f"where {first} usually {second}"] * 7 + [f"always {first} or {second}"])] = True
    return chance.sample(list(rows), len(rows))


class Promise(unittest.TestCase):
    def torn_or_ranked(self, names, rows):
        """Whether a book is torn; what is told then, or else, is as point 3 promises."""
        desk, told = Desk("\n".join(rows)), Told(names, rows)
        core = desk.ask("torn")
        if core:
            self.assertTrue(set(core) <= set(told.usual), (rows, core))
            self.assertEqual(core, [row for row in told.usual if row in core], (rows, core))
            sides = [told.sides[row] for row in core]
            self.assertTrue(told.is_torn(sides), (rows, core))
            for left_out in range(len(sides)):
                self.assertFalse(told.torn_by(sides[:left_out] + sides[left_out + 1:]), (rows, core))
            return desk, told, None
        ranks = read_ranks(desk.ask("ranks"))
        self.assertEqual(sorted(ranks), sorted(told.possible))
        self.assertTrue(told.fits_all(ranks), (rows, ranks))
        return desk, told, ranks

    def test_torn_or_the_least_ranking_that_fits(self):
        chance = random.Random(101)
        torn = 0
        for step in range(350):
            names = ["a", "b"][:chance.choice([1, 2, 2, 2])]
            desk, told, ranks = self.torn_or_ranked(names, drawn_rows(chance, names, chance.randint(0, 4)))
            torn += ranks is None
            for other in told.rankings(len(told.possible)):
                if told.fits_all(other):
                    self.assertIsNotNone(ranks, told.usual)
                    self.assertTrue(all(ranks[world] <= other[world] for world in other), (told.usual, other))
        self.assertTrue(50 < torn < 300, torn)

    def test_larger_books(self):
        chance = random.Random(102)
        torn = 0
        for step in range(150):
            names = ["a", "bird", "c", "fly", "x", "yak"][:chance.randint(3, 6)]
            rows = drawn_rows(chance, names, chance.choice([2, 4, 6, 9]), 3)
            torn += self.torn_or_ranked(names, rows)[2] is None
        self.assertTrue(20 < torn < 130, torn)

    def test_each_ask_has_the_least_odd_world_on_either_side(self):
        chance = random.Random(103)
        for step in range(150):
            names = ["a", "b", "c", "d"][:chance.randint(1, 4)]
            desk, told, ranks = self.torn_or_ranked(names, drawn_rows(chance, names, chance.randint(0, 4)))
            if ranks is None:
                continue
            order = sorted(told.possible, key=lambda world: (ranks[world], [n in world for n in reversed(names)]))
            for more in range(4):
                row = f"where {drawn_text(chance, names, 2)} usually {drawn_text(chance, names, 2)}"
                met, broken = told.sides_of(row)
                one = next((world for world in order if world in met), None)
                other = next((world for world in order if world in broken), None)
                texts = desk.ask("ask " + row)
                self.assertEqual([read_world(text) for text in texts[1:]], [one, other], (told.usual, row))
                if told.fits(ranks, (met, broken)):
                    self.assertEqual(texts[0], "usually")
                elif told.fits(ranks, (broken, met)):
                    self.assertEqual(texts[0], "seldom")
                else:
                    self.assertEqual(texts[0], "open" if met else "never")

    def test_each_further_row_fits_whatever_fits_or_not(self):
        chance = random.Random(104)
        seen = {}
        for step in range(200):
            names = ["a", "b"]
            desk, told, ranks = self.torn_or_ranked(names, drawn_rows(chance, names, chance.randint(0, 3)))
            if ranks is None:
                continue
            fitting = [other for other in told.rankings(len(told.possible)) if told.fits_all(other)]
            for more in range(5):
                first = "a and not a" if chance.random() < 0.1 else drawn_text(chance, names, 2)
                row = f"where {first} usually {drawn_text(chance, names, 2)}"
                met, broken = told.sides_of(row)
                texts = desk.ask("follows " + row)
                seen[texts[0]] = seen.get(texts[0], 0) + 1
                if not met and not broken:
                    self.assertEqual(texts, ["never"])
                elif all(told.fits(other, (met, broken)) for other in fitting):
                    self.assertEqual(texts[0], "follows", (told.usual, row))
                    self.assertEqual(texts[1:], [one for one in told.usual if one in texts[1:]])
                    part = [told.sides[one] for one in texts[1:]]
                    self.assertTrue(told.torn_by(part + [(broken, met)]), (told.usual, row))
                    for left_out in range(len(part)):
                        fewer = part[:left_out] + part[left_out + 1:] + [(broken, met)]
                        self.assertFalse(told.torn_by(fewer), (told.usual, row))
                else:
                    self.assertEqual(texts[0], "free", (told.usual, row))
                    other = read_ranks(texts[1:])
                    self.assertEqual(sorted(other), sorted(told.possible))
                    self.assertTrue(told.fits_all(other), (told.usual, row))
                    self.assertFalse(told.fits(other, (met, broken)), (told.usual, row))
        self.assertTrue(all(seen[word] > 20 for word in ("never", "follows", "free")), seen)

    def test_news_is_believed_and_taken_back(self):
        chance = random.Random(105)
        taken = 0
        for step in range(150):
            names = ["a", "b", "c"]
            desk, told, ranks = self.torn_or_ranked(names, drawn_rows(chance, names, chance.randint(0, 4)))
            text = drawn_text(chance, names, 2)
            inside = [world for world in told.possible if told.holds(text, world)]
            if ranks is None or len(inside) in (0, len(told.possible)):
                continue
            taken += 1
            for firm in (0, 1, 10 ** 59):
                desk.ask(f"hear {firm} {text}")
                after = read_ranks(desk.ask("ranks"))
                self.assertEqual(min(after.values()), 0)
                self.assertEqual(desk.ask("believe " + text), ["yes" if firm else "no"])
                outside = [world for world in told.possible if world not in inside]
                for side in (inside, outside):
                    self.assertEqual(len({after[world] - ranks[world] for world in side}), 1)
                self.assertEqual(min(after[world] for world in outside), firm)
                desk.ask("forget")
                self.assertEqual(read_ranks(desk.ask("ranks")), ranks)
        self.assertGreater(taken, 40)


SCRIPT = r"""
from wontbook.desk import Desk
text = "always not penguin or bird\nwhere bird usually fly\nwhere penguin usually not fly\nwhere x or bird usually y"
desk = Desk(text)
for line in ("ranks", "follows where bird usually not penguin", "follows where fly usually bird",
             "ask where y usually x", "hear 3 penguin or x", "ranks", "believe y",
             "tell where penguin usually fly", "torn", "book"):
    print(line, desk.ask(line))
"""


class Chance(unittest.TestCase):
    def told(self, seed):
        around = dict(os.environ, PYTHONHASHSEED=seed, PYTHONPATH=str(ROOT))
        ran = subprocess.run([sys.executable, "-c", SCRIPT], env=around, capture_output=True, text=True, check=True)
        return ran.stdout

    def test_nothing_hangs_on_chance(self):
        first = self.told("0")
        self.assertEqual(first.count("\n"), 10)
        for seed in ("1", "2", "4294967295"):
            self.assertEqual(self.told(seed), first)


if __name__ == "__main__":
    unittest.main()
