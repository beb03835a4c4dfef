"""Forms: whether something is one, its gaps, its rank and its plain form."""

from commonforms.errors import NoForm, TooMany
from commonforms.fillings import filled
from commonforms.signs import depth_of, is_gap, signs_of

HIGHEST_NUMBER = 999
LETTERS = "abcdefghijklmnopqrstuvwxyz"
MOST_LETTERS = 8
MOST_PARTS = 4
MOST_SIGNS = 200
MOST_DEPTH = 40


def is_word(text):
    return 1 <= len(text) <= MOST_LETTERS and all([letter in LETTERS for letter in text])


def is_right(sign):
    if is_gap(sign):
        return 0 <= sign[1] <= HIGHEST_NUMBER
    return is_word(sign[1]) and len(sign[2]) <= MOST_PARTS


# All signs are looked at ahead of the size: what is both no form and too large is no form.
def looked(form):
    signs = signs_of(form)
    for sign in signs:
        if not is_right(sign):
            raise NoForm("a gap's number, a tie's word or its number of parts is out of bounds")
    if len(signs) > MOST_SIGNS:
        raise TooMany(f"more than {MOST_SIGNS} signs")
    if depth_of(form) > MOST_DEPTH:
        raise TooMany(f"a depth above {MOST_DEPTH}")
    return len(signs)


def gaps(form):
    # A dict keeps the order in which its keys came, and each of them once.
    seen = {}
    for sign in signs_of(form):
        if is_gap(sign):
            seen[sign[1]] = True
    return list(seen)


def rank(form):
    return len(signs_of(form)) - len(gaps(form))


# Filled all at once, so a new number that is also an old one is not taken for it.
def numbered_from(form, start):
    anew = {}
    for place, number in enumerate(gaps(form), start=start):
        anew[number] = ("gap", place)
    return filled(form, anew)


def plain(form):
    return numbered_from(form, 0)
