"""Point 5, and points 3, 4 and 6 over every yard that small rows of puttings and takings lead to."""

import itertools
import random
import unittest

from stallyard.errors import Full, Here, NoCart
from stallyard.yard import Yard
from tests.helper import RULES, every_yard, turned


def ways(layout, many):
    total = 0
    for at, name in enumerate(layout):
        if name is not None:
            while name % many != at:
                at = (at - 1) % many
                total += 1
    return total


SMALL = ((2, 5), (3, 7), (4, 9), (5, 8))


class EveryYardTest(unittest.TestCase):
    @classmethod
    def setUpClass(cls):
        cls.made = {}
        for (many, most), rule in itertools.product(SMALL, RULES):
            cls.made[(many, rule)] = every_yard(many, rule, range(most))

    def by_carts(self, many, rule):
        groups = {}
        for yard in self.made[(many, rule)][0]:
            groups.setdefault(tuple(yard.names()), []).append(yard)
        return groups

    def test_rules_1_and_2_lead_to_one_layout(self):
        for (many, most), rule in itertools.product(SMALL, (1, 2)):
            with self.subTest(many=many, rule=rule):
                for names, yards in self.by_carts(many, rule).items():
                    self.assertEqual(len(yards), 1, names)

    def test_rule_0_does_lead_to_several(self):
        self.assertTrue(any(len(yards) > 1 for yards in self.by_carts(4, 0).values()))

    def test_every_rule_takes_the_same_stalls_with_the_same_sum(self):
        for many, most in SMALL:
            seen = {}
            for rule in RULES:
                for names, yards in self.by_carts(many, rule).items():
                    for yard in yards:
                        taken = [name is not None for name in yard.stalls()]
                        seen.setdefault(names, (taken, yard.steps()))
                        self.assertEqual((taken, yard.steps()), seen[names])

    def test_steps_is_the_sum_of_all_ways(self):
        for (many, rule), (yards, moves) in self.made.items():
            for yard in yards:
                self.assertEqual(yard.steps(), ways(yard.stalls(), many))

    def test_names_and_how_many(self):
        for yards, moves in self.made.values():
            for yard in yards:
                names = sorted(name for name in yard.stalls() if name is not None)
                self.assertEqual((yard.names(), yard.how_many()), (names, len(names)))

    def test_what_is_told_is_what_changes(self):
        for yards, moves in self.made.values():
            for before, name, told, after in moves:
                layout = before.stalls()
                if name in layout:
                    layout[layout.index(name)] = None
                for moving, at in told:
                    if moving in layout:
                        layout[layout.index(moving)] = None
                    layout[at] = moving
                self.assertEqual(layout, after.stalls())

    def test_each_cart_is_found_and_no_other(self):
        for (many, rule), (yards, moves) in self.made.items():
            for yard in yards:
                layout = yard.stalls()
                for name in range(3 * many):
                    at = layout.index(name) if name in layout else None
                    self.assertEqual(yard.where(name), at)
                    seen = yard.looked(name)
                    self.assertEqual(seen, [(name + step) % many for step in range(len(seen))])
                    self.assertEqual(layout[seen[-1]] == name, at is not None)

    def test_refusals_change_nothing(self):
        for (many, rule), (yards, moves) in self.made.items():
            for yard in yards:
                layout = yard.stalls()
                for name in range(2 * many):
                    if name in layout:
                        self.assertRaises(Here, yard.put, name)
                    else:
                        self.assertRaises(NoCart, yard.take, name)
                        if len(yard.names()) == many - 1:
                            self.assertRaises(Full, yard.put, name)
                    self.assertEqual(yard.stalls(), layout)


class LongRowTest(unittest.TestCase):
    def wandered(self, many, rule, wanted, others, seed):
        """A yard with the wanted carts, behind a long row of puttings and takings of these and others."""
        chance = random.Random(seed)
        yard = Yard(many, rule)
        for turn in range(600):
            turned(yard, chance.choice(wanted + others))
        for name in others:
            if yard.where(name) is not None:
                yard.take(name)
        for name in wanted:
            if yard.where(name) is None:
                yard.put(name)
        return yard

    def test_large_yards_stand_the_same(self):
        for many, count in ((2, 1), (16, 15), (97, 80), (200, 199)):
            chance = random.Random(many)
            names = [chance.randrange(10 ** 30) for turn in range(count + 40)]
            wanted = names[:count]
            for rule in RULES:
                with self.subTest(many=many, rule=rule):
                    straight = Yard(many, rule)
                    for name in wanted:
                        straight.put(name)
                    for seed in range(3):
                        other = self.wandered(many, rule, wanted, names[count:], seed)
                        self.same(straight, other)

    def same(self, one, other):
        self.assertEqual(one.names(), other.names())
        self.assertEqual(one.steps(), other.steps())
        if one.rule != 0:
            self.assertEqual(one.stalls(), other.stalls())
        free = [name is None for name in one.stalls()]
        self.assertEqual(free, [name is None for name in other.stalls()])


if __name__ == "__main__":
    unittest.main()
