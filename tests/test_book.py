"""Points 9 and 10, and point 1 for them: books, their layouts, and when two of them are alike."""

import random
import unittest

from stallyard.book import Book, alike, changes
from stallyard.errors import Full, NoCart
from stallyard.yard import Yard
from tests.helper import GREATEST, RULES

NAMES = [turn * turn * 7 for turn in range(96)]


def written(rule, rows):
    book = Book(rule)
    for name, worth in rows:
        book.write(name, worth)
    return book


def of_names(rule, names):
    return written(rule, [(name, name + 1) for name in names])


def standing(book):
    return [None if cell is None else cell[0] for cell in book.layout()]


def all_told(book):
    return (book.how_many(), book.layout())


def wanted(count):
    """The bounds of the document, written out."""
    for most, many in ((3, 4), (6, 8), (12, 16), (24, 32), (48, 64)):
        if count <= most:
            return many
    return 128


class PlainBook:
    """The words of point 9 done step by step upon a yard."""

    def __init__(self, rule):
        self.yard = Yard(4, rule)

    def move(self, many):
        yard = Yard(many, self.yard.rule)
        for name in self.yard.stalls():
            if name is not None:
                yard.put(name)
        self.yard = yard

    def turn(self, name):
        if name in self.yard.stalls():
            self.yard.take(name)
            many = wanted(self.yard.how_many())
            if many < self.yard.many:
                self.move(many)
        else:
            many = wanted(self.yard.how_many() + 1)
            if many > self.yard.many:
                self.move(many)
            self.yard.put(name)


class RefusalCase(unittest.TestCase):
    def refused(self, book, error, method, *handed):
        before = all_told(book)
        with self.assertRaises(error):
            method(*handed)
        self.assertEqual(all_told(book), before)


class BookTest(RefusalCase):
    def test_an_empty_book(self):
        for rule in RULES:
            book = Book(rule)
            self.assertEqual(all_told(book), (0, [None] * 4))
            self.assertIsNone(book.worth(0))
            self.refused(book, NoCart, book.drop, 0)

    def test_write_worth_drop(self):
        for rule in RULES:
            with self.subTest(rule=rule):
                book = Book(rule)
                self.assertIs(book.write(5, 70), False)
                self.assertIs(book.write(2, -3), False)
                self.assertEqual((book.worth(5), book.worth(2), book.worth(1)), (70, -3, None))
                self.assertEqual(all_told(book), (2, [None, (5, 70), (2, -3), None]))
                self.assertIs(book.write(5, 71), True)
                self.assertIs(book.write(5, 71), True)
                self.assertEqual(all_told(book), (2, [None, (5, 71), (2, -3), None]))
                self.assertEqual(book.drop(5), 71)
                self.assertEqual((book.worth(5), book.worth(2)), (None, -3))
                self.assertEqual(all_told(book), (1, [None, None, (2, -3), None]))
                self.assertIs(book.write(5, 8), False)
                self.assertEqual(book.worth(5), 8)

    def test_name_nought_and_worth_nought(self):
        for rule in RULES:
            book = Book(rule)
            self.assertIs(book.write(0, 0), False)
            self.assertIs(book.write(0, 0), True)
            self.assertEqual(book.worth(0), 0)
            self.assertEqual(all_told(book), (1, [(0, 0), None, None, None]))
            self.assertEqual(book.drop(0), 0)
            self.assertEqual(all_told(book), (0, [None] * 4))

    def test_thirty_figures(self):
        for rule in RULES:
            book = written(rule, [(GREATEST, -GREATEST), (GREATEST - 1, GREATEST)])
            self.assertEqual(book.layout(), [None, None, (GREATEST - 1, GREATEST), (GREATEST, -GREATEST)])
            self.assertEqual((book.worth(GREATEST), book.worth(GREATEST - 1)), (-GREATEST, GREATEST))
            self.assertEqual(book.drop(GREATEST), -GREATEST)

    def test_somewhat_beyond_thirty_figures_is_not_refused(self):
        for rule in RULES:
            book = written(rule, [(10 ** 33, -10 ** 33)])
            self.assertEqual(book.layout(), [(10 ** 33, -10 ** 33), None, None, None])

    def test_no_cart(self):
        for rule in RULES:
            book = of_names(rule, [3, 7, 11])
            for name in (0, 1, 15, GREATEST):
                self.refused(book, NoCart, book.drop, name)
            book.drop(7)
            self.refused(book, NoCart, book.drop, 7)
            full = of_names(rule, NAMES)
            self.refused(full, NoCart, full.drop, 1)

    def test_the_stalls_at_each_count(self):
        for rule in RULES:
            book = Book(rule)
            for count in range(97):
                self.assertEqual((book.how_many(), len(book.layout())), (count, wanted(count)))
                if count < 96:
                    book.write(NAMES[count], count)
            for count in range(95, -1, -1):
                book.drop(NAMES[count])
                self.assertEqual((book.how_many(), len(book.layout())), (count, wanted(count)))

    def test_the_bounds_by_hand(self):
        rows = ((3, 4), (4, 8), (6, 8), (7, 16), (12, 16), (13, 32), (24, 32), (25, 64), (48, 64), (49, 128), (96, 128))
        for rule in RULES:
            for count, many in rows:
                self.assertEqual(len(of_names(rule, range(count)).layout()), many)

    def test_writing_again_does_not_count(self):
        for rule in RULES:
            book = of_names(rule, [7, 3, 11])
            before = standing(book)
            for worth in range(5):
                self.assertIs(book.write(3, worth), True)
            self.assertEqual((book.how_many(), standing(book)), (3, before))

    def test_full(self):
        for rule in RULES:
            with self.subTest(rule=rule):
                book = of_names(rule, NAMES)
                for name in (1, 2, 127, GREATEST):
                    self.refused(book, Full, book.write, name, 5)
                    self.assertIsNone(book.worth(name))
                before = standing(book)
                for name in NAMES:
                    self.assertIs(book.write(name, -name), True)
                self.assertEqual(standing(book), before)
                self.assertEqual([book.worth(name) for name in NAMES], [-name for name in NAMES])
                self.assertEqual(book.how_many(), 96)

    def test_behind_a_drop_another_comes(self):
        for rule in RULES:
            book = of_names(rule, NAMES)
            book.drop(NAMES[40])
            self.assertIs(book.write(1, 9), False)
            self.assertEqual((book.how_many(), book.worth(1)), (96, 9))
            self.refused(book, Full, book.write, NAMES[40], 9)

    def test_books_hold_nothing_in_common(self):
        one = Book(1)
        other = Book(1)
        one.write(2, 5)
        self.assertEqual(all_told(other), (0, [None] * 4))


class LayoutTest(unittest.TestCase):
    def test_by_each_rule(self):
        self.assertEqual(of_names(0, [7, 3, 11]).layout(), [(3, 4), (11, 12), None, (7, 8)])
        self.assertEqual(of_names(1, [7, 3, 11]).layout(), [(7, 8), (11, 12), None, (3, 4)])
        self.assertEqual(of_names(2, [7, 3, 4]).layout(), [(7, 8), (4, 5), None, (3, 4)])

    def test_tuples_in_a_list(self):
        layout = of_names(1, [7, 3]).layout()
        self.assertIs(type(layout), list)
        self.assertTrue(all(cell is None or type(cell) is tuple for cell in layout))

    def test_rule_0_grows_in_the_order_of_the_stalls(self):
        book = of_names(0, [7, 3, 11])
        self.assertEqual(standing(book), [3, 11, None, 7])
        book.write(8, 1)
        self.assertEqual(standing(book), [8, None, None, 3, 11, None, None, 7])

    def test_rule_0_is_moved_and_then_the_name_is_put_in(self):
        book = of_names(0, [1, 2, 3, 4, 5, 7])
        book.write(23, 1)
        self.assertEqual(standing(book), [None, 1, 2, 3, 4, 5, None, 7, 23] + [None] * 7)

    def test_rule_0_the_name_is_taken_out_and_then_it_is_moved(self):
        book = of_names(0, [2, 3, 4, 5, 7, 15, 31])
        self.assertEqual(standing(book), [31, None, 2, 3, 4, 5, None, 7] + [None] * 7 + [15])
        self.assertEqual(book.drop(15), 16)
        self.assertEqual(standing(book), [31, None, 2, 3, 4, 5, None, 7])

    def test_rule_0_stays_where_no_other_number_is_wanted(self):
        book = of_names(0, [7, 3])
        self.assertEqual(standing(book), [3, None, None, 7])
        book.write(11, 1)
        self.assertEqual(standing(book), [3, 11, None, 7])
        book.drop(11)
        self.assertEqual(standing(book), [3, None, None, 7])
        book.write(3, 1)
        self.assertEqual(standing(book), [3, None, None, 7])

    def test_step_by_step(self):
        for rule in RULES:
            for seed in range(4):
                with self.subTest(rule=rule, seed=seed):
                    self.drawn_row(rule, random.Random(seed))

    def drawn_row(self, rule, chance):
        names = [chance.randrange(10 ** chance.randint(1, 30)) for turn in range(96)]
        book = Book(rule)
        plain = PlainBook(rule)
        worths = {}
        for turn in range(400):
            # The row swells and ebbs, so that each bound is crossed both ways.
            name = chance.choice(names[:max(2, abs(turn % 200 - 100))])
            if name in worths:
                self.assertEqual(book.drop(name), worths.pop(name))
            else:
                worths[name] = chance.randrange(-50, 50)
                self.assertIs(book.write(name, worths[name]), False)
            plain.turn(name)
            cells = [None if name is None else (name, worths[name]) for name in plain.yard.stalls()]
            self.assertEqual(book.layout(), cells)

    def test_the_same_whatever_has_led_to_it(self):
        for rule in RULES:
            for count in (0, 1, 3, 4, 6, 7, 12, 13, 24, 25, 48, 49, 96):
                with self.subTest(rule=rule, count=count):
                    chance = random.Random(count)
                    names = chance.sample(range(1000), 96)
                    straight = of_names(rule, names[:count])
                    for seed in range(3):
                        self.same(rule, straight, self.wandered(rule, names, count, seed))

    def wandered(self, rule, names, count, seed):
        """A book with the first so many of the names, behind a row of writings and drops of them all."""
        chance = random.Random(seed)
        book = Book(rule)
        for turn in range(200):
            name = chance.choice(names)
            if book.worth(name) is None:
                book.write(name, chance.randrange(100))
            else:
                book.drop(name)
        for name in chance.sample(names, len(names)):
            if name in names[:count]:
                book.write(name, name + 1)
            elif book.worth(name) is not None:
                book.drop(name)
        return book

    def same(self, rule, one, other):
        self.assertIs(alike(one, other), True)
        free = [cell is None for cell in one.layout()]
        self.assertEqual([cell is None for cell in other.layout()], free)
        if rule != 0:
            self.assertEqual(one.layout(), other.layout())

    def test_other_names_or_worths_another_layout(self):
        for rule in RULES:
            book = of_names(rule, [7, 3, 9])
            for other in ([7, 3], [7, 3, 9, 0], [7, 3, 13], []):
                self.assertNotEqual(of_names(rule, other).layout(), book.layout())
            self.assertNotEqual(written(rule, [(7, 8), (3, 4), (9, 11)]).layout(), book.layout())

    def test_the_answer_may_be_changed(self):
        for rule in RULES:
            book = of_names(rule, [7, 3])
            before = book.layout()
            answer = book.layout()
            answer[0] = (1, 1)
            answer.append(None)
            answer.reverse()
            book.layout().clear()
            self.assertEqual(book.layout(), before)
            self.assertEqual((book.worth(7), book.worth(3), book.worth(1)), (8, 4, None))

    def test_an_answer_stays_as_it_was(self):
        book = of_names(1, [7, 3])
        answer = book.layout()
        book.write(7, 0)
        book.write(2, 0)
        book.drop(3)
        self.assertEqual(answer, [(7, 8), None, None, (3, 4)])


class AlikeTest(unittest.TestCase):
    def check(self, ones, others, rows):
        """Over books of every two rules: what changes tells, and the other way round."""
        back = [(name, later, earlier) for name, earlier, later in rows]
        for rule in RULES:
            for second in RULES:
                with self.subTest(rules=(rule, second)):
                    one = written(rule, ones)
                    other = written(second, others)
                    before = (all_told(one), all_told(other))
                    self.told(changes(one, other), rows)
                    self.told(changes(other, one), back)
                    self.assertIs(alike(one, other), rows == [])
                    self.assertIs(alike(other, one), rows == [])
                    self.assertEqual((all_told(one), all_told(other)), before)

    def told(self, answer, rows):
        self.assertEqual(answer, rows)
        self.assertIs(type(answer), list)
        self.assertTrue(all(type(row) is tuple for row in answer))

    def test_empty_books(self):
        self.check([], [], [])

    def test_the_same_names_and_worths(self):
        self.check([(7, 8), (3, -4)], [(3, -4), (7, 8)], [])
        self.check([(7, 1), (3, -4), (7, 8)], [(3, -4), (7, 8)], [])

    def test_other_worths(self):
        self.check([(7, 8), (3, -4), (5, 0)], [(7, 9), (3, 4), (5, 0)], [(3, -4, 4), (7, 8, 9)])

    def test_names_that_are_not_there(self):
        self.check([(7, 8)], [], [(7, 8, None)])
        self.check([(7, 8), (5, 1)], [(7, 8), (2, 1)], [(2, None, 1), (5, 1, None)])

    def test_a_worth_of_nought_is_not_none(self):
        self.check([(7, 0)], [], [(7, 0, None)])
        self.check([(0, 0)], [(0, 1)], [(0, 0, 1)])

    def test_worths_that_changed_places(self):
        self.check([(1, 5), (2, 6)], [(1, 6), (2, 5)], [(1, 5, 6), (2, 6, 5)])

    def test_thirty_figures(self):
        self.check([(GREATEST, GREATEST)], [(GREATEST, -GREATEST)], [(GREATEST, GREATEST, -GREATEST)])

    def test_rising_names_of_many(self):
        ones = [(name, 1) for name in reversed(NAMES)]
        self.check(ones, [(name, 1) for name in NAMES], [])
        self.check(ones, [], [(name, 1, None) for name in sorted(NAMES)])
        self.check(ones, [(name + 1, 1) for name in NAMES[:2]] + [(NAMES[5], 3)], sorted(
            [(name, 1, None) for name in NAMES if name != NAMES[5]]
            + [(NAMES[5], 1, 3), (NAMES[0] + 1, None, 1), (NAMES[1] + 1, None, 1)]
        ))

    def test_a_book_with_itself(self):
        book = of_names(0, [7, 3])
        self.assertIs(alike(book, book), True)
        self.assertEqual(changes(book, book), [])

    def test_behind_a_drop(self):
        one = of_names(1, [7, 3, 9])
        one.drop(9)
        self.assertIs(alike(one, of_names(2, [3, 7])), True)
        self.assertEqual(changes(one, of_names(2, [3, 7])), [])

    def test_the_answer_may_be_changed(self):
        one = of_names(0, [7, 3])
        other = Book(0)
        before = (all_told(one), all_told(other))
        answer = changes(one, other)
        answer[0] = (1, 1, 1)
        answer.clear()
        self.assertEqual((all_told(one), all_told(other)), before)
        self.assertEqual(changes(one, other), [(3, 4, None), (7, 8, None)])


if __name__ == "__main__":
    unittest.main()
