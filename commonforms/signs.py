"""The signs of a form: their kinds, their order and how deep they lie."""


def is_gap(form):
    return form[0] == "gap"


def parts_of(form):
    return () if is_gap(form) else form[2]


# Only ties have a kind: two gaps of one number may still stand for different forms.
def of_one_kind(one, other):
    if is_gap(one) or is_gap(other):
        return False
    return one[1] == other[1] and len(one[2]) == len(other[2])


# Each sign is told as the form that begins with it, so that its parts are at hand.
def signs_of(form):
    signs = [form]
    for part in parts_of(form):
        signs.extend(signs_of(part))
    return signs


def depth_of(form):
    return 1 + max([depth_of(part) for part in parts_of(form)], default=0)
