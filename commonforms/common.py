"""The least common form of two forms, and of several."""

from commonforms.errors import NoForms
from commonforms.forms import plain
from commonforms.signs import of_one_kind


# The pairs keep their numbers, so that the same pair gets the same gap wherever it stands.
def shared(one, other, pairs):
    if of_one_kind(one, other):
        parts = [shared(part, facing, pairs) for part, facing in zip(one[2], other[2])]
        return ("tie", one[1], tuple(parts))
    return ("gap", pairs.setdefault((one, other), len(pairs)))


def common(one, other):
    pairs = {}
    least = shared(one, other, pairs)
    to_one = {}
    to_other = {}
    for pair, number in pairs.items():
        to_one[number] = pair[0]
        to_other[number] = pair[1]
    return (least, to_one, to_other)


def common_of(forms):
    if len(forms) == 0:
        raise NoForms("no forms, so none is common to them")
    # Plain from the start, since a single form meets no other that would number its gaps.
    least = plain(forms[0])
    for form in forms[1:]:
        least = common(least, form)[0]
    return least
