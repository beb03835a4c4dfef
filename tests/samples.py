"""Forms that several tests draw on."""


def gap(number):
    return ("gap", number)


def tie(word, *parts):
    return ("tie", word, tuple(parts))


def chain(depth, end):
    """The form of this many ties, one within the other, with `end` innermost."""
    form = end
    for _ in range(depth):
        form = tie("f", form)
    return form


def bush(signs):
    """A shallow form of this many signs."""
    if signs == 1:
        return tie("a")
    parts = min(4, signs - 1)
    share, rest = divmod(signs - 1, parts)
    return tie("b", *[bush(share + (1 if place < rest else 0)) for place in range(parts)])


LEAVES = [gap(0), gap(1), gap(2), tie("a"), tie("f", tie("a"))]


def small_forms():
    """Some dozens of forms, with gaps 0 to 2 in many places."""
    forms = list(LEAVES)
    forms += [tie("f", leaf) for leaf in LEAVES]
    forms += [tie("g", one, other) for one in LEAVES for other in LEAVES]
    forms += [tie("h", gap(2), tie("g", gap(0), gap(2)), gap(1)), tie("a", gap(0), gap(0), gap(0), gap(1))]
    return forms


def small_fillings():
    """Fillings of no, one, two and three numbers; some tell gaps that others fill."""
    fillings = [{}, {7: gap(0)}]
    for leaf in LEAVES:
        fillings += [{0: leaf}, {1: tie("g", leaf, gap(2))}, {2: leaf, 0: tie("f", gap(1))}]
    fillings += [{0: gap(1), 1: gap(0)}, {0: gap(1), 1: gap(2), 2: gap(0)}]
    return fillings
