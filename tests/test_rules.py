"""Points 1 and 2: ways and the three rules."""

import unittest

from stallyard.rules import keeps, way

GREATEST = 10 ** 30 - 1


class WayTest(unittest.TestCase):
    def test_way_to_each_stall_from_stall_nought(self):
        self.assertEqual([way(0, at, 5) for at in range(5)], [0, 1, 2, 3, 4])

    def test_way_to_each_stall_round_the_end(self):
        self.assertEqual([way(3, at, 5) for at in range(5)], [2, 3, 4, 0, 1])

    def test_way_from_the_last_stall(self):
        self.assertEqual([way(9, at, 5) for at in range(5)], [1, 2, 3, 4, 0])

    def test_wish_is_the_rest_of_the_name(self):
        self.assertEqual([way(23, at, 5) for at in range(5)], [2, 3, 4, 0, 1])

    def test_two_stalls(self):
        self.assertEqual([way(6, 0, 2), way(6, 1, 2), way(7, 0, 2), way(7, 1, 2)], [0, 1, 1, 0])

    def test_two_hundred_stalls(self):
        self.assertEqual([way(200, 0, 200), way(200, 199, 200), way(399, 0, 200), way(399, 198, 200)], [0, 199, 1, 199])

    def test_names_of_thirty_figures(self):
        # The rests of 10 ** 30 - 1 by 200 and by 7 are 199 and 0.
        self.assertEqual([way(GREATEST, 199, 200), way(GREATEST, 0, 200), way(GREATEST, 198, 200)], [0, 1, 199])
        self.assertEqual([way(GREATEST, at, 7) for at in range(7)], [0, 1, 2, 3, 4, 5, 6])
        self.assertEqual(way(123456789012345678901234567890, 3, 200), 113)

    def test_a_way_is_a_whole_number(self):
        self.assertIs(type(way(3, 1, 5)), int)


class KeepsTest(unittest.TestCase):
    def check(self, rule, one, other, at, many, answer):
        self.assertIs(keeps(rule, one, other, at, many), answer)

    def test_rule_0_who_stands_there_keeps(self):
        for one, other in ((3, 8), (8, 3), (3, 4), (4, 3), (2, 9), (9, 2)):
            for at in range(5):
                with self.subTest(one=one, other=other, at=at):
                    self.check(0, one, other, at, 5, True)

    def test_rule_1_like_ways(self):
        self.check(1, 3, 8, 4, 5, True)
        self.check(1, 8, 3, 4, 5, False)

    def test_rule_1_does_not_ask_for_unlike_ways(self):
        # At stall 0 of 5 the way of 4 is 1, that of 7 is 3, that of 5 is 0.
        self.check(1, 4, 7, 0, 5, True)
        self.check(1, 7, 4, 0, 5, False)
        self.check(1, 4, 5, 0, 5, True)
        self.check(1, 5, 4, 0, 5, False)

    def test_rule_2_the_longer_way_keeps_whatever_the_names(self):
        self.check(2, 7, 4, 0, 5, True)
        self.check(2, 4, 7, 0, 5, False)
        self.check(2, 4, 5, 0, 5, True)
        self.check(2, 5, 4, 0, 5, False)

    def test_rule_2_ways_are_counted_to_this_stall(self):
        # To stall 4 of 5 the way of 4 is 0 and that of 0 is 4; to stall 0 they are 1 and 0.
        self.check(2, 0, 4, 4, 5, True)
        self.check(2, 4, 0, 4, 5, False)
        self.check(2, 0, 4, 0, 5, False)
        self.check(2, 4, 0, 0, 5, True)

    def test_rule_2_of_like_ways_the_lesser_name_keeps(self):
        for at in range(5):
            with self.subTest(at=at):
                self.check(2, 3, 8, at, 5, True)
                self.check(2, 8, 3, at, 5, False)

    def test_names_of_thirty_figures(self):
        less = GREATEST - 200
        self.check(0, GREATEST, less, 5, 200, True)
        self.check(1, GREATEST, less, 5, 200, False)
        self.check(1, less, GREATEST, 5, 200, True)
        self.check(2, GREATEST, less, 5, 200, False)
        self.check(2, less, GREATEST, 5, 200, True)
        self.check(2, GREATEST, 0, 5, 200, True)
        self.check(2, 0, GREATEST, 5, 200, False)


if __name__ == "__main__":
    unittest.main()
