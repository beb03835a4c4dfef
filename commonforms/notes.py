"""Forms written as texts, and read from them."""

from commonforms.errors import BadNote, FormError
from commonforms.forms import LETTERS, looked
from commonforms.signs import is_gap

FIGURES = "0123456789"


def shown(form):
    if is_gap(form):
        return "?" + str(form[1])
    if len(form[2]) == 0:
        return form[1]
    parts = [shown(part) for part in form[2]]
    return form[1] + "(" + ",".join(parts) + ")"


# The empty text where the text is at its end, so that no sign is looked for behind it.
def sign_at(text, place):
    return text[place:place + 1]


def run_end(text, start, signs):
    end = start
    while end < len(text) and text[end] in signs:
        end += 1
    return end


# What reads a piece of the text tells what it has read and the place behind it.
def read_gap(text, start):
    end = run_end(text, start, FIGURES)
    figures = text[start:end]
    if figures == "":
        raise BadNote("a gap without a number")
    if figures.startswith("0") and figures != "0":
        raise BadNote("a number with a needless nought")
    return (("gap", int(figures)), end)


def read_tie(text, start):
    end = run_end(text, start, LETTERS)
    word = text[start:end]
    if word == "":
        raise BadNote("neither a gap nor a word where a form should begin")
    if sign_at(text, end) != "(":
        return (("tie", word, ()), end)
    parts = read_parts(text, end + 1)
    return (("tie", word, parts[0]), parts[1])


# At least one part: brackets stand only where there is something to stand in them.
def read_parts(text, start):
    parts = []
    place = start
    while True:
        part = read_form(text, place)
        parts.append(part[0])
        mark = sign_at(text, part[1])
        place = part[1] + 1
        if mark == ")":
            return (tuple(parts), place)
        if mark != ",":
            raise BadNote("neither a comma nor a closing bracket behind a part")


def read_form(text, start):
    if sign_at(text, start) == "?":
        return read_gap(text, start + 1)
    return read_tie(text, start)


def read(text):
    whole = read_form(text, 0)
    if whole[1] < len(text):
        raise BadNote("something stands behind the form")
    try:
        looked(whole[0])
    except FormError:
        raise BadNote("what is written is out of a form's bounds")
    return whole[0]
