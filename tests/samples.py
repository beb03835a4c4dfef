"""Forms that several tests draw on."""

import random


def gap(number):
    return ("gap", number)


def tie(word, *parts):
    return ("tie", word, tuple(parts))


def chain(depth, end):
    """The form of this many ties, one within the other, with `end` innermost."""
    form = end
    for _ in range(depth):
        form = tie("f", form)
    return form


def bush(signs):
    """A shallow form of this many signs."""
    if signs == 1:
        return tie("a")
    parts = min(4, signs - 1)
    share, rest = divmod(signs - 1, parts)
    return tie("b", *[bush(share + (1 if place < rest else 0)) for place in range(parts)])


LEAVES = [gap(0), gap(1), gap(2), tie("a"), tie("f", tie("a"))]


def small_forms():
    """Some dozens of forms, with gaps 0 to 2 in many places."""
    forms = list(LEAVES)
    forms += [tie("f", leaf) for leaf in LEAVES]
    forms += [tie("g", one, other) for one in LEAVES for other in LEAVES]
    forms += [tie("h", gap(2), tie("g", gap(0), gap(2)), gap(1)), tie("a", gap(0), gap(0), gap(0), gap(1))]
    return forms


def small_fillings():
    """Fillings of no, one, two and three numbers; some tell gaps that others fill."""
    fillings = [{}, {7: gap(0)}]
    for leaf in LEAVES:
        fillings += [{0: leaf}, {1: tie("g", leaf, gap(2))}, {2: leaf, 0: tie("f", gap(1))}]
    fillings += [{0: gap(1), 1: gap(0)}, {0: gap(1), 1: gap(2), 2: gap(0)}]
    return fillings


def plain_leaves(form, leaves):
    """The form with its leaves, all gaps, taken from this list."""
    if form[0] == "gap":
        return leaves.pop(0)
    return tie(form[1], *[plain_leaves(part, leaves) for part in form[2]])


def shapes(signs):
    """All forms of this many signs out of gaps 0, f of one part, f of two and g of two."""
    if signs == 1:
        return [gap(0)]
    found = [tie("f", part) for part in shapes(signs - 1)]
    for share in range(1, signs - 1):
        for one in shapes(share):
            for other in shapes(signs - 1 - share):
                found += [tie("f", one, other), tie("g", one, other)]
    return found


def leaf_rows(length, highest):
    """All rows of this many leaves, the gaps among them numbered from 0 in their order."""
    if length == 0:
        return [[]]
    rows = [[tie("a")] + row for row in leaf_rows(length - 1, highest)]
    for number in range(highest + 1):
        rows += [[gap(number)] + row for row in leaf_rows(length - 1, max(highest, number + 1))]
    return rows


def leaf_count(form):
    return 1 if form[0] == "gap" else sum(leaf_count(part) for part in form[2])


def all_plain_forms(signs):
    """All plain forms up to this many signs, out of gaps, a, f of one part, f of two and g of two.

    What covers a form has at most as many signs: so whatever covers one of these is alike one of these.
    """
    found = []
    for count in range(1, signs + 1):
        for shape in shapes(count):
            found += [plain_leaves(shape, row) for row in leaf_rows(leaf_count(shape), 0)]
    return found


def grown(chance, signs, numbers, depth=40):
    """Some form of at most this many signs, its gaps among these numbers."""
    if signs == 1 or depth == 1:
        return tie(chance.choice("ab")) if chance.random() < 0.3 or not numbers else gap(chance.choice(numbers))
    count = min(chance.randint(1, 4), signs - 1)
    cuts = sorted(chance.sample(range(1, signs - 1), count - 1)) if count > 1 else []
    shares = [end - start for start, end in zip([0] + cuts, cuts + [signs - 1])]
    return tie(chance.choice("fg"), *[grown(chance, share, numbers, depth - 1) for share in shares])


def changed(chance, form, numbers):
    """The form with some of its parts replaced, so that it has much in common with it."""
    if chance.random() < 0.1:
        return grown(chance, chance.randint(1, 6), numbers)
    if form[0] == "gap":
        return form
    return tie(form[1], *[changed(chance, part, numbers) for part in form[2]])


def form_pairs(seed, count, signs, numbers):
    """Pairs of some forms, each of at most this many signs; the two of many pairs have much in common."""
    chance = random.Random(seed)
    pairs = []
    while len(pairs) < count:
        one = grown(chance, chance.randint(1, signs), numbers)
        other = changed(chance, one, numbers) if chance.random() < 0.7 else grown(chance, signs, numbers)
        if len(flat(one)) <= signs and len(flat(other)) <= signs:
            pairs.append((one, other))
    return pairs


def flat(form):
    """The signs of a form in their order, found without the program."""
    found = [form]
    if form[0] == "tie":
        for part in form[2]:
            found += flat(part)
    return found
