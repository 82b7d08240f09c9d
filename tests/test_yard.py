"""Points 1 and 3 to 6: what one yard does."""

import unittest

from stallyard.errors import Full, Here, NoCart, NoSize
from stallyard.yard import Yard
from tests.helper import GREATEST, RULES, all_told, stood


class RefusalCase(unittest.TestCase):
    def refused(self, yard, error, method, name):
        before = all_told(yard)
        with self.assertRaises(error):
            method(name)
        self.assertEqual(all_told(yard), before)


class MadeTest(unittest.TestCase):
    def test_an_empty_yard(self):
        for rule in RULES:
            for many in (2, 3, 199, 200):
                with self.subTest(many=many, rule=rule):
                    self.assertEqual(all_told(Yard(many, rule)), (many, rule, [None] * many, [], 0, 0))

    def test_no_size(self):
        for many in (1, 0, -1, -2, -200, 201, 202, 10 ** 30, -10 ** 30, 10 ** 5000, -10 ** 5000):
            for rule in RULES:
                with self.subTest(bits=many.bit_length(), rule=rule), self.assertRaises(NoSize):
                    Yard(many, rule)

    def test_fields_stay_behind_puttings_and_takings(self):
        yard = stood(5, 2, [3, 8, 13])
        yard.take(8)
        self.assertEqual((yard.many, yard.rule), (5, 2))

    def test_yards_hold_nothing_in_common(self):
        one = Yard(4, 1)
        other = Yard(4, 1)
        one.put(2)
        self.assertEqual(other.stalls(), [None, None, None, None])


class PutTest(RefusalCase):
    def check(self, many, rule, rows, layout):
        yard = Yard(many, rule)
        for name, told in rows:
            answer = yard.put(name)
            self.assertEqual(answer, told)
            self.assertIs(type(answer), list)
            self.assertTrue(all(type(one) is tuple for one in answer))
        self.assertEqual(yard.stalls(), layout)

    def test_rule_0_goes_on_to_a_free_stall_round_the_end(self):
        rows = [(3, [(3, 3)]), (8, [(8, 4)]), (13, [(13, 0)]), (5, [(5, 1)])]
        self.check(5, 0, rows, [13, 5, None, 3, 8])

    def test_rule_0_gives_way_to_no_lesser_name(self):
        self.check(5, 0, [(13, [(13, 3)]), (3, [(3, 4)]), (4, [(4, 0)])], [4, None, None, 13, 3])

    def test_rule_1_a_lesser_name_drives_on_a_greater(self):
        self.check(7, 1, [(8, [(8, 1)]), (2, [(2, 2)]), (1, [(1, 1), (8, 3)])], [None, 1, 2, 8, None, None, None])

    def test_rule_1_one_after_another_gives_way(self):
        rows = [(21, [(21, 1)]), (31, [(31, 2)]), (41, [(41, 3)]), (11, [(11, 1), (21, 2), (31, 3), (41, 4)])]
        self.check(10, 1, rows, [None, 11, 21, 31, 41, None, None, None, None, None])

    def test_rule_1_round_the_end(self):
        rows = [(11, [(11, 3)]), (7, [(7, 3), (11, 0)]), (4, [(4, 0), (11, 1)])]
        self.check(4, 1, rows, [4, 11, None, 7])

    def test_rule_1_a_longer_way_counts_for_nothing(self):
        self.check(5, 1, [(3, [(3, 3)]), (8, [(8, 4)]), (4, [(4, 4), (8, 0)])], [8, None, None, 3, 4])

    def test_rule_2_a_longer_way_drives_on_a_shorter(self):
        rows = [(1, [(1, 1)]), (2, [(2, 2)]), (8, [(8, 2), (2, 3)])]
        self.check(7, 2, rows, [None, 1, 8, 2, None, None, None])

    def test_rule_2_of_like_ways_the_greater_name_gives_way(self):
        rows = [(15, [(15, 1)]), (8, [(8, 1), (15, 2)]), (1, [(1, 1), (8, 2), (15, 3)])]
        self.check(7, 2, rows, [None, 1, 8, 15, None, None, None])

    def test_rule_2_round_the_end(self):
        rows = [(4, [(4, 4)]), (0, [(0, 0)]), (9, [(9, 0), (0, 1)]), (14, [(14, 1), (0, 2)])]
        self.check(5, 2, rows, [9, 14, 0, None, 4])

    def test_names_of_thirty_figures(self):
        less = GREATEST - 200
        self.check(200, 0, [(GREATEST, [(GREATEST, 199)]), (less, [(less, 0)])], [less] + [None] * 198 + [GREATEST])
        for rule in (1, 2):
            with self.subTest(rule=rule):
                rows = [(GREATEST, [(GREATEST, 199)]), (less, [(less, 199), (GREATEST, 0)])]
                self.check(200, rule, rows, [GREATEST] + [None] * 198 + [less])

    def test_a_name_somewhat_beyond_thirty_figures_is_not_refused(self):
        for rule in RULES:
            self.assertEqual(Yard(7, rule).put(10 ** 33 + 1), [(10 ** 33 + 1, 0)])

    def test_two_stalls_take_one_cart(self):
        for rule in RULES:
            with self.subTest(rule=rule):
                yard = Yard(2, rule)
                self.assertEqual(yard.put(7), [(7, 1)])
                for name in (0, 1, 8, 9):
                    self.refused(yard, Full, yard.put, name)
                self.refused(yard, Here, yard.put, 7)

    def test_two_hundred_stalls_take_all_but_one(self):
        for rule in RULES:
            with self.subTest(rule=rule):
                yard = stood(200, rule, [199 + 200 * turn for turn in range(199)])
                self.assertEqual(yard.how_many(), 199)
                self.assertEqual(yard.steps(), 198 * 199 // 2)
                self.assertEqual(yard.stalls()[198], None)
                self.refused(yard, Full, yard.put, 198)
                self.refused(yard, Here, yard.put, 199 + 200 * 198)

    def test_here(self):
        for rule in RULES:
            with self.subTest(rule=rule):
                yard = stood(7, rule, [1, 2, 8, 0])
                for name in (0, 1, 2, 8):
                    self.refused(yard, Here, yard.put, name)

    def test_here_in_a_full_yard_else_full(self):
        for rule in RULES:
            with self.subTest(rule=rule):
                yard = stood(5, rule, [3, 8, 13, 5])
                for name in (3, 8, 13, 5):
                    self.refused(yard, Here, yard.put, name)
                for name in (0, 1, 2, 4, 10, 18, GREATEST):
                    self.refused(yard, Full, yard.put, name)

    def test_a_full_yard_takes_another_behind_a_taking(self):
        for rule in RULES:
            with self.subTest(rule=rule):
                yard = stood(3, rule, [0, 1])
                yard.take(0)
                self.assertEqual(yard.put(2), [(2, 2)])


class TakeTest(RefusalCase):
    def check(self, many, rule, names, gone, told, layout):
        yard = stood(many, rule, names)
        answer = yard.take(gone)
        self.assertEqual(answer, told)
        self.assertIs(type(answer), list)
        self.assertTrue(all(type(one) is tuple for one in answer))
        self.assertEqual(yard.stalls(), layout)

    def test_a_lone_cart(self):
        for rule in RULES:
            self.check(2, rule, [7], 7, [], [None, None])

    def test_who_stands_at_its_wish_does_not_pass(self):
        for rule in RULES:
            self.check(5, rule, [1, 2, 3], 1, [], [None, None, 2, 3, None])

    def test_carts_behind_the_first_free_stall_stay(self):
        for rule in RULES:
            self.check(7, rule, [1, 8, 4, 11], 1, [(8, 1)], [None, 8, None, None, 4, 11, None])

    def test_carts_ahead_of_the_gap_stay(self):
        for rule in RULES:
            self.check(7, rule, [1, 8, 15], 15, [], [None, 1, 8, None, None, None, None])
            self.check(7, rule, [1, 8, 15], 8, [(15, 2)], [None, 1, 15, None, None, None, None])

    def test_rule_0_round_the_end(self):
        self.check(5, 0, [3, 8, 13, 5], 3, [(8, 3), (13, 4), (5, 0)], [5, None, None, 8, 13])

    def test_rule_0_a_gap_at_stall_nought(self):
        self.check(5, 0, [3, 8, 13, 5], 13, [(5, 0)], [5, None, None, 3, 8])

    def test_rule_0_one_that_does_not_pass_is_left_out(self):
        self.check(7, 0, [1, 2, 8], 1, [(8, 1)], [None, 8, 2, None, None, None, None])

    def test_rule_0_the_nearest_goes_whatever_its_name(self):
        self.check(7, 0, [1, 2, 15, 8], 1, [(15, 1), (8, 3)], [None, 15, 2, 8, None, None, None])

    def test_rule_0_left_out_round_the_end(self):
        self.check(5, 0, [4, 0, 9], 4, [(9, 4)], [0, None, None, None, 9])

    def test_rule_1_round_the_end(self):
        self.check(4, 1, [7, 4, 11], 7, [(11, 3)], [4, None, None, 11])

    def test_rule_1_one_after_another(self):
        layout = [None, 21, 31, 41, None, None, None, None, None, None]
        self.check(10, 1, [41, 31, 21, 11], 11, [(21, 1), (31, 2), (41, 3)], layout)

    def test_rule_1_one_that_does_not_pass_is_left_out(self):
        self.check(7, 1, [8, 2, 15, 1], 1, [(8, 1), (15, 3)], [None, 8, 2, 15, None, None, None])

    def test_rule_2_one_after_another(self):
        self.check(7, 2, [1, 2, 8], 1, [(8, 1), (2, 2)], [None, 8, 2, None, None, None, None])

    def test_rule_2_round_the_end(self):
        self.check(5, 2, [4, 0, 9, 14], 4, [(9, 4), (14, 0), (0, 1)], [14, 0, None, None, 9])

    def test_rule_2_a_gap_at_stall_nought(self):
        self.check(5, 2, [4, 0, 9, 14], 9, [(14, 0), (0, 1)], [14, 0, None, None, 4])

    def test_two_hundred_stalls(self):
        names = [199 + 200 * turn for turn in range(199)]
        told = [(names[turn], (198 + turn) % 200) for turn in range(1, 199)]
        for rule in RULES:
            with self.subTest(rule=rule):
                yard = stood(200, rule, names)
                self.assertEqual(yard.take(199), told)
                self.assertEqual(yard.steps(), 197 * 198 // 2)

    def test_names_of_thirty_figures(self):
        for rule in RULES:
            self.check(7, rule, [GREATEST - 7, GREATEST], GREATEST - 7, [(GREATEST, 0)], [GREATEST] + [None] * 6)

    def test_no_cart(self):
        for rule in RULES:
            with self.subTest(rule=rule):
                empty = Yard(5, rule)
                self.refused(empty, NoCart, empty.take, 3)
                yard = stood(5, rule, [3, 8, 13, 5])
                for name in (0, 1, 2, 4, 10, 18, GREATEST):
                    self.refused(yard, NoCart, yard.take, name)
                yard.take(8)
                self.refused(yard, NoCart, yard.take, 8)


class LookedTest(unittest.TestCase):
    def check(self, yard, rows):
        for name, seen, at in rows:
            with self.subTest(rule=yard.rule, name=name):
                self.assertEqual(yard.looked(name), seen)
                self.assertEqual(yard.where(name), at)

    def test_an_empty_yard(self):
        for rule in RULES:
            self.check(Yard(5, rule), [(0, [0], None), (4, [4], None), (13, [3], None), (GREATEST, [4], None)])

    def test_rule_0(self):
        yard = stood(5, 0, [3, 8, 13, 5])
        self.assertEqual(yard.stalls(), [13, 5, None, 3, 8])
        self.check(yard, [(3, [3], 3), (8, [3, 4], 4), (13, [3, 4, 0], 0), (5, [0, 1], 1)])
        self.check(yard, [(18, [3, 4, 0, 1, 2], None), (4, [4, 0, 1, 2], None), (0, [0, 1, 2], None), (2, [2], None)])

    def test_rule_1(self):
        yard = stood(5, 1, [3, 8, 13, 5])
        self.assertEqual(yard.stalls(), [5, 13, None, 3, 8])
        self.check(yard, [(3, [3], 3), (8, [3, 4], 4), (5, [0], 0), (13, [3, 4, 0, 1], 1)])
        self.check(yard, [(18, [3, 4, 0, 1, 2], None), (10, [0, 1], None), (9, [4, 0, 1], None), (4, [4], None)])
        self.check(yard, [(0, [0], None), (1, [1], None), (2, [2], None), (16, [1, 2], None)])

    def test_rule_2(self):
        yard = stood(5, 2, [3, 8, 13, 5])
        self.assertEqual(yard.stalls(), [13, 5, None, 3, 8])
        self.check(yard, [(3, [3], 3), (8, [3, 4], 4), (13, [3, 4, 0], 0), (5, [0, 1], 1)])
        self.check(yard, [(18, [3, 4, 0, 1], None), (4, [4, 0, 1], None), (0, [0, 1], None), (10, [0, 1, 2], None)])
        self.check(yard, [(1, [1, 2], None), (2, [2], None)])

    def test_cart_nought_at_stall_nought(self):
        for rule in RULES:
            self.check(stood(5, rule, [0]), [(0, [0], 0), (5, [0, 1], None)])

    def test_round_all_of_two_hundred_stalls(self):
        for rule in RULES:
            yard = stood(200, rule, [199 + 200 * turn for turn in range(199)])
            self.check(yard, [(199 + 200 * 500, [199] + list(range(199)), None)])
            self.check(yard, [(199 + 200 * 198, [199] + list(range(198)), 197)])

    def test_looking_changes_nothing(self):
        for rule in RULES:
            yard = stood(5, rule, [3, 8, 13])
            before = all_told(yard)
            yard.looked(18)
            yard.where(8)
            self.assertEqual(all_told(yard), before)


class ToldTest(unittest.TestCase):
    def test_behind_puttings_and_takings(self):
        yard = Yard(7, 2)
        yard.put(8)
        self.assertEqual(all_told(yard), (7, 2, [None, 8, None, None, None, None, None], [8], 1, 0))
        yard.put(2)
        yard.put(1)
        self.assertEqual(all_told(yard), (7, 2, [None, 1, 8, 2, None, None, None], [1, 2, 8], 3, 2))
        yard.take(1)
        self.assertEqual(all_told(yard), (7, 2, [None, 8, 2, None, None, None, None], [2, 8], 2, 0))
        yard.take(8)
        yard.take(2)
        self.assertEqual(all_told(yard), (7, 2, [None] * 7, [], 0, 0))

    def test_names_rise_whatever_the_stalls(self):
        yard = stood(5, 0, [13, 4, 20, 6])
        self.assertEqual(yard.stalls(), [20, 6, None, 13, 4])
        self.assertEqual(yard.names(), [4, 6, 13, 20])

    def test_cart_nought_counts(self):
        yard = stood(4, 1, [0])
        self.assertEqual((yard.names(), yard.how_many(), yard.where(0)), ([0], 1, 0))

    def test_steps_round_the_end(self):
        for rule in RULES:
            self.assertEqual(stood(5, rule, [3, 8, 13, 5]).steps(), 4)

    def test_what_is_answered_is_the_callers_own(self):
        for rule in RULES:
            with self.subTest(rule=rule):
                yard = Yard(5, rule)
                answers = [yard.put(8), yard.put(3), yard.put(13), yard.take(3)]
                before = all_told(yard)
                answers += [yard.stalls(), yard.names(), yard.looked(8)]
                for answer in answers:
                    answer.append(99)
                    answer[0] = 77
                    answer.reverse()
                self.assertEqual(all_told(yard), before)
                self.assertEqual((yard.looked(8), yard.where(8), yard.where(13)), ([3], 3, 4))
                yard.stalls().clear()
                yard.names().clear()
                self.assertEqual(all_told(yard), before)

    def test_an_answer_stays_as_it_was(self):
        yard = Yard(5, 1)
        told = yard.put(8)
        layout = yard.stalls()
        names = yard.names()
        yard.put(3)
        yard.take(8)
        self.assertEqual((told, layout, names), ([(8, 3)], [None, None, None, 8, None], [8]))


if __name__ == "__main__":
    unittest.main()
