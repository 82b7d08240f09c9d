"""Yards written as texts, and read from them."""

from stallyard.errors import NotRead
from stallyard.layouts import laid
from stallyard.yard import is_size

WORDS = ("first", "name", "far")
FIGURES = "0123456789"
MOST_FIGURES = 30
NO_CART = "-"


def shown(yard):
    many = yard.many
    word = WORDS[yard.rule]
    cells = [NO_CART if name is None else str(name) for name in yard.stalls()]
    return " ".join([f"{many} {word}:"] + cells)


def read(text):
    parts = text.split(" ")
    if len(parts) < 2:
        raise NotRead("a number of stalls and a rule's word with a blank between are missing")
    many = read_number(parts[0])
    rule = read_rule(parts[1])
    layout = [read_cell(part) for part in parts[2:]]
    if not is_size(many) or len(layout) != many:
        raise NotRead("the number of stalls is none that a yard has, or the cells are not as many")
    return laid(many, rule, layout)


def read_number(part):
    if not is_number(part):
        raise NotRead("a number is missing, or not written as it should be")
    return int(part)


def read_rule(part):
    for rule, word in enumerate(WORDS):
        if part == f"{word}:":
            return rule
    raise NotRead("a rule's word with its colon is missing")


def read_cell(part):
    return None if part == NO_CART else read_number(part)


def is_number(part):
    if part == "" or len(part) > MOST_FIGURES:
        return False
    if part[0] == "0" and part != "0":
        return False
    return all([sign in FIGURES for sign in part])
