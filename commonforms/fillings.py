"""Fillings: dicts from numbers of gaps to forms."""

from commonforms.signs import is_gap


# What is put in the place of a gap is not walked, so it is not filled again.
def filled(form, filling):
    if is_gap(form):
        return filling.get(form[1], form)
    parts = [filled(part, filling) for part in form[2]]
    return ("tie", form[1], tuple(parts))


def one_filling(one, other):
    both = {}
    for number, form in one.items():
        both[number] = filled(form, other)
    for number, form in other.items():
        # The second one finds no gaps left where the first one has been.
        if number not in both:
            both[number] = form
    return both
