"""Point 11, and point 1 for it: yards written and read."""

import itertools
import random
import re
import unittest

from stallyard.errors import NotLaid, NotRead
from stallyard.layouts import right
from stallyard.notes import read, shown
from stallyard.yard import Yard
from tests.helper import GREATEST, RULES, all_told, every_yard, stood, turned

WORDS = ("first", "name", "far")
FORM = re.compile(r"([1-9][0-9]{0,2}) (first|name|far):((?: (?:-|0|[1-9][0-9]{0,29}))*)")
RIGHT_TEXT = "4 name: 8 - 6 11"


def expected(text):
    """The error that the text is refused with, None where it is read, by another way than the program's."""
    found = FORM.fullmatch(text)
    if found is None:
        return NotRead
    many = int(found[1])
    cells = found[3].split()
    if many not in range(2, 201) or len(cells) != many:
        return NotRead
    layout = [None if cell == "-" else int(cell) for cell in cells]
    return None if right(many, WORDS.index(found[2]), layout) else NotLaid


class ShownTest(unittest.TestCase):
    def test_by_each_rule(self):
        self.assertEqual(shown(stood(5, 0, [3, 8, 13, 5])), "5 first: 13 5 - 3 8")
        self.assertEqual(shown(stood(5, 1, [3, 8, 13, 5])), "5 name: 5 13 - 3 8")
        self.assertEqual(shown(stood(5, 2, [3, 8, 13, 5])), "5 far: 13 5 - 3 8")
        self.assertEqual(shown(stood(4, 1, [6, 8, 11])), RIGHT_TEXT)

    def test_an_empty_yard(self):
        for rule, word in enumerate(WORDS):
            self.assertEqual(shown(Yard(2, rule)), f"2 {word}: - -")
            self.assertEqual(shown(Yard(200, rule)), f"200 {word}:" + " -" * 200)

    def test_cart_nought(self):
        self.assertEqual(shown(stood(2, 0, [0])), "2 first: 0 -")

    def test_thirty_figures(self):
        self.assertEqual(shown(stood(2, 2, [GREATEST])), "2 far: - " + "9" * 30)

    def test_the_yard_stays(self):
        for rule in RULES:
            yard = stood(5, rule, [3, 8, 13, 5])
            before = all_told(yard)
            shown(yard)
            self.assertEqual(all_told(yard), before)


class ReadTest(unittest.TestCase):
    def check(self, text, many, rule, layout):
        yard = read(text)
        self.assertIs(type(yard), Yard)
        self.assertEqual((yard.many, yard.rule, yard.stalls()), (many, rule, layout))
        self.assertEqual(shown(yard), text)

    def refused(self, error, texts):
        for text in texts:
            with self.subTest(text=text[:60]):
                with self.assertRaises(error) as caught:
                    read(text)
                self.assertIs(type(caught.exception), error)

    def test_by_each_rule(self):
        self.check(RIGHT_TEXT, 4, 1, [8, None, 6, 11])
        self.check("5 first: 13 5 - 3 8", 5, 0, [13, 5, None, 3, 8])
        self.check("5 name: 5 13 - 3 8", 5, 1, [5, 13, None, 3, 8])
        self.check("5 far: 13 5 - 3 8", 5, 2, [13, 5, None, 3, 8])

    def test_the_least_and_the_most(self):
        for rule, word in enumerate(WORDS):
            self.check(f"2 {word}: - -", 2, rule, [None, None])
            self.check(f"2 {word}: 0 -", 2, rule, [0, None])
            self.check(f"2 {word}: - " + "9" * 30, 2, rule, [None, GREATEST])
            self.check(f"200 {word}:" + " -" * 200, 200, rule, [None] * 200)
            names = [GREATEST // 200 * 200 + at for at in range(199)]
            text = f"200 {word}: " + " ".join(str(name) for name in names) + " -"
            self.check(text, 200, rule, names + [None])

    def test_what_is_shown_is_read(self):
        for rule in RULES:
            for many, most in ((2, 5), (3, 7), (4, 8)):
                for yard in every_yard(many, rule, range(most))[0]:
                    self.check(shown(yard), many, rule, yard.stalls())
            chance = random.Random(rule)
            for many in (10, 100, 200):
                yard = Yard(many, rule)
                for turn in range(300):
                    turned(yard, chance.randrange(10 ** chance.randint(1, 30)))
                self.check(shown(yard), many, rule, yard.stalls())

    def test_a_yard_that_is_read_goes_on_as_the_one_that_was_shown(self):
        for rule in RULES:
            yard = stood(7, rule, [1, 8, 15, 2, 6])
            other = read(shown(yard))
            for name in (8, 0, 22, 1, 15):
                self.assertEqual(turned(other, name), turned(yard, name))
                self.assertEqual(all_told(other), all_told(yard))

    def test_no_text_at_all(self):
        self.refused(NotRead, ["", " ", "  ", "\n", "\t", "-", ":", "4", "4 ", "4 name", "name:", "4 name:", "4 name: "])

    def test_a_wrong_word(self):
        self.refused(NotRead, [
            "4 second: 8 - 6 11", "4 Name: 8 - 6 11", "4 NAME: 8 - 6 11", "4 names: 8 - 6 11", "4 nam: 8 - 6 11",
            "4 1: 8 - 6 11", "4 : 8 - 6 11", "4 8 - 6 11", "4 name 8 - 6 11", "4 name 8 - 6 11:", "4 name:: 8 - 6 11",
            "4 name; 8 - 6 11", "4 :name 8 - 6 11", "4 name : 8 - 6 11", "4: name 8 - 6 11", "name 4: 8 - 6 11",
            "name: 4 8 - 6 11", "4 name name: 8 - 6 11", "4 first:name: 8 - 6 11", "4 - 8 - 6 11",
        ])

    def test_noughts_ahead(self):
        self.refused(NotRead, [
            "04 name: 8 - 6 11", "4 name: 08 - 6 11", "4 name: 8 - 6 011", "4 name: 00 - 6 11", "4 name: 000 - - -",
            "002 name: - -", "2 first: - 01", "0x4 name: 8 - 6 11",
        ])

    def test_a_sign_or_a_blank_too_many(self):
        self.refused(NotRead, [
            " 4 name: 8 - 6 11", "4  name: 8 - 6 11", "4 name:  8 - 6 11", "4 name: 8 -  6 11", "4 name: 8 - 6 11 ",
            "4 name: 8 - 6 11 -", "4 name: 8 -- 6 11", "4 name: 8 - 6 11.", "4 name: +8 - 6 11", "4 name: -8 - 6 11",
            "+4 name: 8 - 6 11", "-4 name: 8 - 6 11", "4 name: 8 - 6 1_1", "4 name: 8 - 6 1,1", "4 name: 8, - 6 11",
            "4 name: 8 - 6 11.0", "4 name: 8 - 6 1e1", "4 name: 8 - 6 0b11", "4 name: 8 None 6 11", "4 name: 8 x 6 11",
            "4 name: 8 _ 6 11", "4 name: '8' - 6 11", "4. name: 8 - 6 11", "-0 name:", "4 name: -0 - 6 11",
        ])

    def test_a_sign_or_a_blank_too_few(self):
        self.refused(NotRead, [
            "4name: 8 - 6 11", "4 name:8 - 6 11", "4 name: 8- 6 11", "4 name: 8 -6 11", "4 name: 8 - 611",
            "name: 8 - 6 11", "4 name: 8  6 11", "4 name:8-611", "4name:8-611",
        ])

    def test_tabs_and_line_ends(self):
        self.refused(NotRead, [
            RIGHT_TEXT + "\n", "\n" + RIGHT_TEXT, RIGHT_TEXT + "\t", "\t" + RIGHT_TEXT, "4\tname: 8 - 6 11",
            "4 name:\t8 - 6 11", "4 name:\n8 - 6 11", "4 name: 8\t- 6 11", "4 name: 8 - 6\n11", "4 name: 8 -\n 6 11",
            "4 name: 8 - 6 11\n\n", RIGHT_TEXT + "\n" + RIGHT_TEXT, "4\n name: 8 - 6 11", "4 name\n: 8 - 6 11",
            "2 first: - \n", "2 first: - \t",
        ])

    def test_too_many_or_too_few_cells(self):
        for word in WORDS:
            self.refused(NotRead, [
                f"4 {word}: - - -", f"4 {word}: - - - - -", f"4 {word}: 8", f"2 {word}: -", f"2 {word}: - - -",
                f"200 {word}:" + " -" * 199, f"200 {word}:" + " -" * 201, f"4 {word}: 0 1 2", f"4 {word}: 0 1 2 3 -",
            ])

    def test_numbers_of_stalls_that_no_yard_has(self):
        for word in WORDS:
            self.refused(NotRead, [
                f"0 {word}:", f"0 {word}: ", f"1 {word}: -", f"1 {word}: 0", f"0 {word}: -", f"201 {word}:" + " -" * 201,
                f"1000 {word}:" + " -" * 1000, f"-2 {word}: - -", f"{10 ** 29} {word}: - -", f"{10 ** 40} {word}: - -",
            ])

    def test_more_than_thirty_figures(self):
        self.refused(NotRead, [
            "2 first: " + "1" + "0" * 30 + " -", "2 first: - " + "9" * 31, "2 name: 0" + "9" * 29 + " -",
            "2 far: " + "2" * 40 + " -", "2 far: " + "8" * 7900 + " -", "8" * 7900 + " far: - -",
        ])

    def test_somewhat_more_than_eight_thousand_signs(self):
        self.refused(NotRead, ["2 far: " + "8" * 9000 + " -", "1" * 9000, " " * 9000, "2 far:" + " -" * 4500])

    def test_not_laid(self):
        self.refused(NotLaid, [
            "4 name: 8 - 11 6", "4 name: 6 - 8 11", "2 first: - 0", "2 name: 1 -", "2 far: 0 1", "2 first: 0 1",
            "5 name: 13 5 - 3 8", "5 far: 5 13 - 3 8", "5 first: - 5 - 3 8", "5 first: 3 - - 3 8", "5 name: - - - 3 3",
            "2 first: - 0", "2 name: " + "9" * 30 + " -",
        ])
        for word in WORDS:
            self.refused(NotLaid, [f"200 {word}: " + " ".join(str(at) for at in range(200))])

    def test_not_read_where_neither_form_nor_layout_is_right(self):
        self.refused(NotRead, ["2 name: 1 -\n", "2 far: 0 1 2", "2 first: 1 1 ", "2 name: 01 -", "3 name: 0 1"])

    def test_each_text_that_is_one_sign_off(self):
        for text in (RIGHT_TEXT, "3 first: 0 - 5", "2 far: 10 -"):
            for at, sign in itertools.product(range(len(text) + 1), "012346819 -:+_af\n\t~"):
                self.by_form(text[:at] + sign + text[at:])
                self.by_form(text[:at] + sign + text[at + 1:])
            for at in range(len(text)):
                self.by_form(text[:at] + text[at + 1:])
                self.by_form(text[:at])
                self.by_form(text[at:])

    def test_drawn_texts(self):
        chance = random.Random(11)
        parts = ["2", "3", "4", "first:", "name:", "far:", "-", "0", "1", "5", "6", "00", "", ":", "\n"]
        for turn in range(4000):
            head = [chance.choice("234"), chance.choice(WORDS) + ":"] if turn % 4 else []
            self.by_form(" ".join(head + chance.choices(parts, k=chance.randint(1, 5))))
        for many, word in itertools.product((2, 3), WORDS):
            for cells in itertools.product(["-", "0", "1", "2", "3", "5"], repeat=many):
                self.by_form(f"{many} {word}: " + " ".join(cells))

    def by_form(self, text):
        error = expected(text)
        if error is None:
            self.assertEqual(shown(read(text)), text)
        else:
            self.refused(error, [text])


if __name__ == "__main__":
    unittest.main()
