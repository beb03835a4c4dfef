"""The nearest form below two forms."""

from commonforms.forms import gaps, numbered_from, plain
from commonforms.signs import is_gap, of_one_kind


def leader_of(form, leaders):
    leader = form
    while leader in leaders:
        leader = leaders[leader]
    return leader


# Forms that come to stand at one place get one leader, a tie where there is any, or None is told.
# Ties follow a leader too: then each pair is met once, and forms that hold themselves come to an end.
def leaders_of(one, other):
    leaders = {}
    left = [(one, other)]
    while len(left) > 0:
        pair = left.pop()
        first = leader_of(pair[0], leaders)
        second = leader_of(pair[1], leaders)
        if first == second:
            continue
        if is_gap(first):
            leaders[first] = second
        elif is_gap(second):
            leaders[second] = first
        elif of_one_kind(first, second):
            leaders[second] = first
            left.extend(list(zip(first[2], second[2])))
        else:
            return None
    return leaders


# Each leader is made whole once, however often it stands: the form told may be very much larger than the two.
# While it isn't whole it counts as None, so that a form that holds itself is None too.
def made_whole(form, leaders, made, numbers):
    leader = leader_of(form, leaders)
    if is_gap(leader):
        return ("gap", numbers.setdefault(leader[1], len(numbers)))
    if leader not in made:
        made[leader] = None
        parts = [made_whole(part, leaders, made, numbers) for part in leader[2]]
        if None not in parts:
            made[leader] = ("tie", leader[1], tuple(parts))
    return made[leader]


def nearest(one, other):
    first = plain(one)
    # Behind the numbers of the one: the gaps of the two have nothing to do with one another.
    second = numbered_from(other, len(gaps(one)))
    leaders = leaders_of(first, second)
    if leaders is None:
        return None
    return made_whole(first, leaders, {}, {})
