"""The signs of a form: their order and how deep they lie."""


def is_gap(form):
    return form[0] == "gap"


def parts_of(form):
    return () if is_gap(form) else form[2]


# Each sign is told as the form that begins with it, so that its parts are at hand.
def signs_of(form):
    signs = [form]
    for part in parts_of(form):
        signs.extend(signs_of(part))
    return signs


def depth_of(form):
    return 1 + max([depth_of(part) for part in parts_of(form)], default=0)
