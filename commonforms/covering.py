"""Covering: whether a filling makes one form another."""

from commonforms.signs import is_gap, of_one_kind


# The filling grows place by place: a gap that stands again must meet what it met first.
def fits(one, other, filling):
    if is_gap(one):
        return filling.setdefault(one[1], other) == other
    if not of_one_kind(one, other):
        return False
    return all([fits(part, facing, filling) for part, facing in zip(one[2], other[2])])


def covers(one, other):
    filling = {}
    return filling if fits(one, other, filling) else None


def alike(one, other):
    return covers(one, other) is not None and covers(other, one) is not None
