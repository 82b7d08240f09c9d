"""Points 7 and 8, and point 1 for them: layouts that are right, yards laid, moved and joined."""

import copy
import itertools
import random
import unittest

from stallyard.errors import Full, Here, NoCart, NoSize, NotLaid, Unlike
from stallyard.layouts import joined, laid, moved, right
from stallyard.yard import Yard
from tests.helper import GREATEST, RULES, all_told, every_yard, stood, turned

SMALL = ((2, 5), (3, 7), (4, 9), (5, 6))


class RightTest(unittest.TestCase):
    def check(self, layout, answers):
        many = len(layout)
        for rule, answer in zip(RULES, answers, strict=True):
            with self.subTest(layout=layout, rule=rule):
                handed = list(layout)
                self.assertIs(right(many, rule, handed), answer)
                if answer:
                    yard = laid(many, rule, handed)
                    self.assertIs(type(yard), Yard)
                    self.assertEqual((yard.many, yard.rule, yard.stalls()), (many, rule, layout))
                else:
                    self.assertRaises(NotLaid, laid, many, rule, handed)
                self.assertEqual(handed, layout)

    def test_the_empty_layout(self):
        for many in (2, 3, 199, 200):
            self.check([None] * many, (True, True, True))

    def test_each_at_its_wish(self):
        self.check([0, None], (True, True, True))
        self.check([None, 1], (True, True, True))
        self.check([5, None, 12, 3, None], (True, True, True))

    def test_the_first_keeps_by_rule_0_alone(self):
        self.check([None, 15, 1, 8, None, None, None], (True, False, False))

    def test_the_lesser_name_keeps_by_rule_1(self):
        self.check([5, 13, None, 3, 8], (True, True, False))

    def test_the_longer_way_keeps_by_rule_2(self):
        self.check([13, 5, None, 3, 8], (True, False, True))

    def test_of_like_ways_the_lesser_name_keeps(self):
        self.check([None, 1, 8, 15, None, None, None], (True, True, True))
        self.check([None, 8, 1, None, None, None, None], (True, False, False))

    def test_not_kept_round_the_end(self):
        self.check([4, None, None, 0, 9], (False, False, False))
        self.check([4, None, None, None, 9], (True, False, False))
        self.check([9, None, None, None, 4], (True, True, True))
        self.check([9, 0, None, None, 4], (True, False, True))
        self.check([0, 9, None, None, 4], (True, True, False))

    def test_a_free_stall_is_passed(self):
        self.check([None, 0], (False, False, False))
        self.check([None, 5, None, 3, 8], (False, False, False))
        self.check([None, 1, None, 8, None, None, None], (False, False, False))

    def test_a_free_stall_is_passed_round_the_end(self):
        self.check([1, None], (False, False, False))
        self.check([3, None, None, None, 8], (False, False, False))
        self.check([8, None, None, 3, None], (False, False, False))
        self.check([None, 8, None, 3, 13], (False, False, False))

    def test_a_name_stands_twice(self):
        self.check([None, None, None, 3, 3], (False, False, False))
        self.check([0, 0, None], (False, False, False))
        self.check([2, None, 2], (False, False, False))
        self.check([3, None, None, 3, 8], (False, False, False))
        self.check([1, 1], (False, False, False))

    def test_no_stall_is_free(self):
        self.check([0, 1], (False, False, False))
        self.check([0, 4, 8], (False, False, False))
        self.check(list(range(200)), (False, False, False))

    def test_one_stall_alone_is_free(self):
        self.check([0, 1, None], (True, True, True))
        self.check(list(range(199)) + [None], (True, True, True))
        self.check([None] + list(range(1, 200)), (True, True, True))

    def test_names_of_thirty_figures(self):
        self.check([GREATEST] + [None] * 198 + [GREATEST - 200], (True, True, True))
        self.check([GREATEST - 200] + [None] * 198 + [GREATEST], (True, False, False))
        self.check([GREATEST] + [None] * 199, (False, False, False))

    def test_a_name_somewhat_beyond_thirty_figures_is_not_refused(self):
        self.check([10 ** 33, None, None, None], (True, True, True))

    def test_just_what_puttings_and_takings_lead_to(self):
        for (many, most), rule in itertools.product(SMALL, RULES):
            with self.subTest(many=many, rule=rule):
                reached = {tuple(yard.stalls()) for yard in every_yard(many, rule, range(most))[0]}
                for layout in itertools.product([None] + list(range(most)), repeat=many):
                    self.assertIs(right(many, rule, list(layout)), layout in reached, layout)

    def test_not_laid_just_where_not_right(self):
        for rule in RULES:
            for layout in itertools.product([None] + list(range(6)), repeat=4):
                try:
                    answer = laid(4, rule, list(layout)).stalls() == list(layout)
                except NotLaid:
                    answer = False
                self.assertIs(answer, right(4, rule, list(layout)), layout)

    def test_drawn_puttings_and_takings_lead_to_right_layouts(self):
        for many, rule in itertools.product((2, 3, 8, 23, 200), RULES):
            with self.subTest(many=many, rule=rule):
                chance = random.Random(many)
                names = [chance.randrange(10 ** chance.randint(1, 30)) for turn in range(many * 2)]
                yard = Yard(many, rule)
                for turn in range(300):
                    turned(yard, chance.choice(names))
                    layout = yard.stalls()
                    self.assertIs(right(many, rule, layout), True)
                    self.assertEqual(layout, yard.stalls())

    def test_a_cart_that_is_left_out_or_moved_is_seen_in_large_yards(self):
        for rule in RULES:
            layout = stood(200, rule, [150 + 200 * turn for turn in range(199)]).stalls()
            for at in (150, 199, 0, 147):
                holed = list(layout)
                holed[at] = None
                self.assertIs(right(200, rule, holed), False)
            swapped = list(layout)
            swapped[199], swapped[0] = swapped[0], swapped[199]
            self.assertIs(right(200, rule, swapped), rule == 0)


class LaidTest(unittest.TestCase):
    def test_as_one_that_was_filled_by_puttings(self):
        for (many, most), rule in itertools.product(SMALL, RULES):
            with self.subTest(many=many, rule=rule):
                for yard in every_yard(many, rule, range(most))[0]:
                    for name in range(most):
                        self.same_turn(copy.deepcopy(yard), laid(many, rule, yard.stalls()), name)

    def same_turn(self, yard, other, name):
        self.assertEqual(all_told(other), all_told(yard))
        self.assertEqual(other.looked(name), yard.looked(name))
        self.assertEqual(other.where(name), yard.where(name))
        self.assertEqual(turned(other, name), turned(yard, name))
        self.assertEqual(all_told(other), all_told(yard))

    def test_a_long_row(self):
        for many, rule in itertools.product((16, 200), RULES):
            chance = random.Random(rule)
            names = [chance.randrange(10 ** 30) for turn in range(many + 20)]
            yard = stood(many, rule, names[:many // 2])
            other = laid(many, rule, yard.stalls())
            for turn in range(300):
                name = chance.choice(names)
                self.assertEqual(turned(other, name), turned(yard, name))
            self.assertEqual(all_told(other), all_told(yard))

    def test_refusals(self):
        for rule in RULES:
            yard = laid(4, rule, [4, 1, None, 3])
            before = all_told(yard)
            self.assertRaises(Full, yard.put, 2)
            self.assertRaises(Full, yard.put, 0)
            self.assertRaises(Here, yard.put, 4)
            self.assertRaises(NoCart, yard.take, 0)
            self.assertEqual(all_told(yard), before)
            two = laid(2, rule, [None, 7])
            self.assertRaises(Full, two.put, 0)

    def test_the_list_may_be_changed_afterwards(self):
        for rule in RULES:
            layout = [4, 1, None, None]
            yard = laid(4, rule, layout)
            layout[0] = None
            layout.append(9)
            layout.reverse()
            self.assertEqual(yard.stalls(), [4, 1, None, None])
            self.assertEqual(yard.where(4), 0)

    def test_the_yard_may_be_changed_afterwards(self):
        for rule in RULES:
            layout = [4, 1, None, None]
            yard = laid(4, rule, layout)
            yard.put(3)
            yard.take(4)
            self.assertEqual(layout, [4, 1, None, None])
            self.assertEqual(yard.stalls(), [None, 1, None, 3])

    def test_two_yards_of_one_list(self):
        layout = [4, None, None, None]
        one = laid(4, 1, layout)
        other = laid(4, 1, layout)
        one.put(2)
        self.assertEqual(other.stalls(), [4, None, None, None])

    def test_what_is_answered_is_the_callers_own(self):
        yard = laid(4, 1, [4, None, None, None])
        yard.stalls().clear()
        yard.names().clear()
        self.assertEqual(yard.stalls(), [4, None, None, None])


def put_in_order(many, rule, layouts):
    """A yard with the carts of these layouts, each put where it comes first."""
    yard = Yard(many, rule)
    done = set()
    for name in itertools.chain.from_iterable(layouts):
        if name is not None and name not in done:
            done.add(name)
            yard.put(name)
    return yard


class MovedTest(unittest.TestCase):
    def check(self, yard, many, layout):
        before = all_told(yard)
        answer = moved(yard, many)
        self.assertIs(type(answer), Yard)
        self.assertEqual((answer.many, answer.rule, answer.stalls()), (many, yard.rule, layout))
        self.assertEqual(all_told(yard), before)

    def refused(self, error, yard, many):
        before = all_told(yard)
        self.assertRaises(error, moved, yard, many)
        self.assertEqual(all_told(yard), before)

    def test_rule_0(self):
        yard = stood(5, 0, [3, 8, 13, 5])
        self.assertEqual(yard.stalls(), [13, 5, None, 3, 8])
        self.check(yard, 7, [None, 8, None, 3, None, 5, 13])
        self.check(yard, 5, [5, 8, None, 13, 3])
        self.check(yard, 10, [None, None, None, 13, 3, 5, None, None, 8, None])
        yard.take(5)
        self.check(yard, 4, [8, 13, None, 3])

    def test_rule_1(self):
        yard = stood(5, 1, [3, 8, 13, 5])
        self.assertEqual(yard.stalls(), [5, 13, None, 3, 8])
        self.check(yard, 5, [5, 13, None, 3, 8])
        self.check(yard, 10, [None, None, None, 3, 13, 5, None, None, 8, None])
        yard.take(3)
        self.check(yard, 4, [8, 5, 13, None])

    def test_rule_2(self):
        yard = stood(5, 2, [3, 8, 13, 5])
        self.assertEqual(yard.stalls(), [13, 5, None, 3, 8])
        self.check(yard, 5, [13, 5, None, 3, 8])
        self.check(yard, 10, [None, None, None, 3, 13, 5, None, None, 8, None])

    def test_an_empty_yard(self):
        for rule, many in itertools.product(RULES, (2, 3, 7, 199, 200)):
            self.check(Yard(5, rule), many, [None] * many)

    def test_no_size(self):
        yards = [Yard(5, rule) for rule in RULES] + [stood(5, rule, [3, 8, 13, 5]) for rule in RULES]
        for yard in yards:
            for many in (1, 0, -1, -5, -200, 201, 202, 10 ** 30, -10 ** 30, 10 ** 5000, -10 ** 5000):
                self.refused(NoSize, yard, many)

    def test_full(self):
        for rule in RULES:
            yard = stood(5, rule, [3, 8, 13, 5])
            for many in (2, 3, 4):
                self.refused(Full, yard, many)
            self.assertEqual(moved(yard, 5).how_many(), 4)
            yard.take(13)
            self.assertEqual(moved(yard, 4).how_many(), 3)
            self.refused(Full, yard, 3)
            great = stood(200, rule, range(199))
            self.refused(Full, great, 199)
            self.assertEqual(moved(great, 200).stalls(), great.stalls())

    def test_drawn_yards(self):
        for rule in RULES:
            chance = random.Random(rule)
            for turn in range(60):
                yard = Yard(chance.randint(2, 30), rule)
                for other in range(60):
                    turned(yard, chance.randrange(200))
                for many in (yard.how_many() + 1, yard.many, yard.many * 2, 200):
                    if many >= 2:
                        self.check(yard, many, put_in_order(many, rule, [yard.stalls()]).stalls())

    def test_neither_reaches_the_other_later(self):
        for rule, many in itertools.product(RULES, (5, 7)):
            old = stood(5, rule, [3, 8])
            new = moved(old, many)
            before = all_told(new)
            old.put(13)
            old.take(3)
            self.assertEqual(all_told(new), before)
            before = all_told(old)
            new.put(1)
            new.take(8)
            self.assertEqual(all_told(old), before)


class JoinedTest(unittest.TestCase):
    def check(self, one, other, layout):
        before = (all_told(one), all_told(other))
        answer = joined(one, other)
        self.assertIs(type(answer), Yard)
        self.assertEqual((answer.many, answer.rule, answer.stalls()), (one.many, one.rule, layout))
        self.assertEqual((all_told(one), all_told(other)), before)

    def refused(self, error, one, other):
        before = (all_told(one), all_told(other))
        self.assertRaises(error, joined, one, other)
        self.assertRaises(error, joined, other, one)
        self.assertEqual((all_told(one), all_told(other)), before)

    def test_rule_0(self):
        one = stood(5, 0, [8])
        other = stood(5, 0, [3, 8, 13])
        self.assertEqual(other.stalls(), [13, None, None, 3, 8])
        self.check(one, other, [3, None, None, 8, 13])
        self.check(other, one, [8, None, None, 13, 3])

    def test_rule_1(self):
        one = stood(5, 1, [8, 13])
        other = stood(5, 1, [3, 5])
        self.check(one, other, [5, 13, None, 3, 8])
        self.check(other, one, [5, 13, None, 3, 8])

    def test_rule_2(self):
        one = stood(5, 2, [8, 13])
        other = stood(5, 2, [3, 5])
        self.check(one, other, [13, 5, None, 3, 8])
        self.check(other, one, [13, 5, None, 3, 8])

    def test_with_an_empty_yard(self):
        for rule in (1, 2):
            yard = stood(5, rule, [3, 8, 13, 5])
            self.check(yard, Yard(5, rule), yard.stalls())
            self.check(Yard(5, rule), yard, yard.stalls())
        # By rule 0 the carts may come to stand otherwise, since they come in the order of their stalls.
        yard = stood(5, 0, [3, 8, 13, 5])
        self.check(yard, Yard(5, 0), [5, 8, None, 13, 3])
        self.check(Yard(5, 0), yard, [5, 8, None, 13, 3])
        for rule in RULES:
            self.check(Yard(5, rule), Yard(5, rule), [None] * 5)

    def test_a_yard_with_itself(self):
        for rule in RULES:
            yard = stood(5, rule, [5, 13, 3, 4])
            self.check(yard, yard, moved(yard, 5).stalls())

    def test_unlike(self):
        for rule in RULES:
            self.refused(Unlike, Yard(5, rule), Yard(6, rule))
            self.refused(Unlike, Yard(5, rule), Yard(5, (rule + 1) % 3))
            self.refused(Unlike, Yard(5, rule), Yard(6, (rule + 1) % 3))
            self.refused(Unlike, stood(5, rule, [1]), stood(5, (rule + 2) % 3, [1]))

    def test_unlike_ahead_of_full(self):
        for rule in RULES:
            self.refused(Unlike, stood(3, rule, [0, 1]), stood(3, (rule + 1) % 3, [3, 4]))
            self.refused(Unlike, stood(3, rule, [0, 1]), stood(4, rule, [4, 5, 6]))

    def test_full(self):
        for rule in RULES:
            self.refused(Full, stood(3, rule, [0, 1]), stood(3, rule, [2]))
            self.refused(Full, stood(5, rule, [3, 8, 13]), stood(5, rule, [0, 1]))
            self.refused(Full, stood(2, rule, [0]), stood(2, rule, [1]))
            self.refused(Full, stood(200, rule, range(100)), stood(200, rule, range(100, 200)))

    def test_carts_of_both_count_once(self):
        for rule in RULES:
            names = [3, 8, 13, 5]
            yard = joined(stood(5, rule, names), stood(5, rule, list(reversed(names))))
            self.assertEqual(yard.names(), sorted(names))
            yard = joined(stood(200, rule, range(100)), stood(200, rule, range(50, 199)))
            self.assertEqual(yard.names(), list(range(199)))

    def test_drawn_yards(self):
        for rule in RULES:
            chance = random.Random(rule)
            for turn in range(100):
                many = chance.randint(2, 40)
                names = chance.sample(range(200), many - 1)
                one = Yard(many, rule)
                other = Yard(many, rule)
                for count in range(60):
                    turned(one, chance.choice(names))
                    turned(other, chance.choice(names))
                self.check(one, other, put_in_order(many, rule, [one.stalls(), other.stalls()]).stalls())

    def test_neither_reaches_the_other_later(self):
        for rule in RULES:
            one = stood(7, rule, [3, 8])
            other = stood(7, rule, [10])
            new = joined(one, other)
            before = all_told(new)
            one.take(3)
            one.put(0)
            other.take(10)
            other.put(4)
            self.assertEqual(all_told(new), before)
            before = (all_told(one), all_told(other))
            new.take(10)
            new.put(5)
            self.assertEqual((all_told(one), all_told(other)), before)


if __name__ == "__main__":
    unittest.main()
