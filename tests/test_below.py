import itertools
import unittest

from commonforms.below import nearest
from commonforms.covering import covers
from commonforms.fillings import filled
from commonforms.forms import plain
from samples import all_plain_forms, bush, chain, flat, form_pairs, gap, small_forms, tie


def marked(form, side):
    """The form with gaps that no other side's form has."""
    if form[0] == "gap":
        return ("gap", (side, form[1]))
    return tie(form[1], *[marked(part, side) for part in form[2]])


def difference(one, other):
    """The first two forms at one place where one must be put for the other; None where there is none."""
    if one == other:
        return None
    if one[0] == "gap" or other[0] == "gap" or one[1] != other[1] or len(one[2]) != len(other[2]):
        return one, other
    return next(filter(None, map(difference, one[2], other[2])))


def by_steps(one, other):
    """The nearest form below both, found by putting in one gap's form after the other."""
    one, other = marked(one, "one"), marked(other, "other")
    while one != other:
        first, second = difference(one, other)
        if first[0] != "gap":
            first, second = second, first
        if first[0] != "gap" or first in flat(second):
            return None
        one, other = filled(one, {first[1]: second}), filled(other, {first[1]: second})
    return plain(one)


def size_of(form, known):
    """The number of signs of a form that has very many, most of them in the same parts."""
    if id(form) not in known:
        known[id(form)] = 1 + sum(size_of(part, known) for part in form[2]) if form[0] == "tie" else 1
    return known[id(form)]


class Nearest(unittest.TestCase):
    def told(self, one, other, form):
        self.assertEqual(nearest(one, other), form)
        self.assertEqual(nearest(other, one), form)

    def test_by_example(self):
        self.told(
            tie("f", gap(0), tie("g", gap(0))),
            tie("f", tie("a"), gap(0)),
            tie("f", tie("a"), tie("g", tie("a"))),
        )
        self.told(tie("f", gap(0), tie("b")), tie("f", tie("a"), gap(0)), tie("f", tie("a"), tie("b")))
        self.told(
            tie("f", gap(4), tie("g", gap(7))),
            tie("f", tie("h", gap(4)), gap(2)),
            tie("f", tie("h", gap(0)), tie("g", gap(1))),
        )

    def test_a_gap_alone(self):
        self.told(gap(5), gap(9), gap(0))
        self.told(gap(5), gap(5), gap(0))
        self.told(gap(5), tie("a"), tie("a"))
        for form in small_forms() + [chain(39, gap(3)), bush(59)]:
            self.told(gap(0), form, plain(form))
            self.told(gap(3), form, plain(form))

    def test_gaps_of_the_same_number_have_nothing_to_do_with_one_another(self):
        self.told(gap(0), tie("f", gap(0)), tie("f", gap(0)))
        self.told(tie("f", gap(0), tie("a")), tie("f", tie("b"), gap(0)), tie("f", tie("b"), tie("a")))
        self.told(tie("f", gap(0), gap(1)), tie("f", gap(1), gap(0)), tie("f", gap(0), gap(1)))
        self.told(tie("f", gap(0), gap(1)), tie("f", tie("g", gap(1)), gap(0)), tie("f", tie("g", gap(0)), gap(1)))
        self.told(
            tie("f", gap(0), gap(1)),
            tie("f", tie("g", gap(0), gap(1)), gap(0)),
            tie("f", tie("g", gap(0), gap(1)), gap(0)),
        )

    def test_gaps_of_two_forms_that_share_some_numbers(self):
        self.told(
            tie("f", gap(0), gap(1), gap(2)),
            tie("f", gap(2), gap(2), gap(1)),
            tie("f", gap(0), gap(0), gap(1)),
        )
        self.told(
            tie("f", gap(1), gap(1), gap(3)),
            tie("f", gap(0), gap(1), gap(1)),
            tie("f", gap(0), gap(0), gap(0)),
        )

    def test_none_where_ties_of_two_kinds_come_to_stand_at_one_place(self):
        self.told(tie("a"), tie("b"), None)
        self.told(tie("f", gap(0)), tie("g", gap(0)), None)
        self.told(tie("f", tie("a"), gap(0)), tie("f", tie("b"), gap(0)), None)
        self.told(tie("f", gap(0), gap(0)), tie("f", tie("a"), tie("b")), None)
        self.told(tie("f", gap(0), gap(0)), tie("f", tie("g", gap(0)), tie("h", gap(0))), None)
        self.told(tie("f", gap(0), gap(1), gap(0), tie("a")), tie("f", gap(0), gap(0), tie("b"), gap(0)), None)

    def test_none_for_the_same_word_with_other_numbers_of_parts(self):
        forms = [tie("f", *[gap(0)] * count) for count in range(5)]
        for one in forms:
            for other in forms:
                self.assertEqual(nearest(one, other), one if one == other else None)
                self.assertEqual(nearest(tie("g", gap(1), one), tie("g", gap(1), other)) is None, one != other)
        self.told(tie("h", gap(0), gap(0)), tie("h", forms[1], forms[2]), None)

    def test_none_where_a_gap_would_have_to_hold_itself(self):
        self.told(tie("f", gap(0), gap(0)), tie("f", gap(0), tie("g", gap(0))), None)
        self.told(tie("f", gap(0), gap(0)), tie("f", tie("g", gap(0)), gap(0)), None)
        self.told(tie("f", gap(0), tie("g", gap(0))), tie("f", gap(0), gap(0)), None)
        self.told(
            tie("f", gap(0), gap(1), gap(0), gap(1)),
            tie("f", tie("g", gap(0)), gap(1), gap(1), tie("g", tie("g", gap(1)))),
            None,
        )
        self.told(tie("f", gap(0), gap(0), gap(0)), tie("f", gap(1), gap(2), tie("g", gap(1), gap(2))), None)

    def test_none_where_two_gaps_hold_one_another(self):
        self.told(
            tie("h", gap(0), gap(1), tie("f", gap(1)), tie("f", gap(0))),
            tie("h", gap(2), gap(3), gap(2), gap(3)),
            None,
        )

    def test_comes_to_an_end_where_two_that_hold_themselves_must_be_one(self):
        # In the one order, both hold themselves ahead of the place where they must be one.
        pairs = [
            (gap(0), gap(1)),
            (tie("g", gap(0), gap(1)), tie("g", tie("f", gap(0)), tie("f", gap(1)))),
            (tie("g", tie("f", gap(0)), tie("f", gap(1))), tie("g", gap(0), gap(1))),
        ]
        for order in itertools.permutations(pairs):
            ones, others = zip(*order)
            self.told(tie("h", *ones), tie("h", *others), None)

    def test_none_where_something_beside_holds_itself(self):
        inner = tie("f", gap(0), gap(0)), tie("f", gap(0), tie("g", gap(0)))
        for place in range(4):
            one, other = [tie("a"), gap(5), gap(6), tie("b")], [gap(7), gap(8), tie("c"), gap(9)]
            one[place], other[place] = inner
            with self.subTest(place=place):
                self.told(tie("r", *one), tie("r", *other), None)

    def test_a_gap_that_meets_itself_holds_nothing(self):
        self.told(tie("f", gap(0), gap(0)), tie("f", gap(0), gap(0)), tie("f", gap(0), gap(0)))
        self.told(tie("f", gap(0), gap(0)), tie("f", gap(0), gap(1)), tie("f", gap(0), gap(0)))
        self.told(
            tie("f", gap(0), gap(0), gap(1), gap(1)),
            tie("f", gap(0), gap(1), gap(1), gap(0)),
            tie("f", gap(0), gap(0), gap(0), gap(0)),
        )

    def test_a_gap_that_stands_several_times(self):
        self.told(
            tie("f", gap(0), gap(0), gap(0)),
            tie("f", tie("g", gap(0), tie("a")), tie("g", tie("b"), gap(1)), gap(2)),
            tie("f", *[tie("g", tie("b"), tie("a"))] * 3),
        )
        self.told(
            tie("f", gap(0), gap(0)),
            tie("f", tie("g", gap(1), gap(2)), tie("g", gap(2), gap(3))),
            tie("f", *[tie("g", gap(0), gap(0))] * 2),
        )

    def test_numbered_in_the_order_in_which_they_first_stand(self):
        self.told(
            tie("f", tie("g", gap(9), gap(3)), gap(9), gap(5)),
            tie("f", gap(3), gap(1), tie("g", gap(4), gap(1))),
            tie("f", tie("g", gap(0), gap(1)), gap(0), tie("g", gap(2), gap(0))),
        )
        self.told(
            tie("f", gap(1), gap(0), tie("h", gap(2))),
            tie("f", tie("g", gap(8), gap(7)), gap(7), gap(6)),
            tie("f", tie("g", gap(0), gap(1)), gap(1), tie("h", gap(2))),
        )

    def test_by_steps(self):
        for one in small_forms():
            for other in small_forms():
                self.told(one, other, by_steps(one, other))

    def test_by_steps_for_larger_forms(self):
        found = []
        for seed, numbers in enumerate([[0], [0, 1], [0, 1, 2, 3], list(range(12))]):
            for one, other in form_pairs(seed, 500, 30, numbers):
                expected = by_steps(one, other)
                found.append(expected is None)
                self.told(one, other, expected)
        # Both answers are to be among them often enough.
        self.assertGreater(found.count(True), 300)
        self.assertGreater(found.count(False), 300)

    def test_it_is_covered_by_both_and_covers_every_form_below_both(self):
        forms = all_plain_forms(5)
        below = {form: {other for other in forms if covers(form, other) is not None} for form in forms}
        for one in all_plain_forms(4):
            for other in all_plain_forms(4):
                told = nearest(one, other)
                both = below[one] & below[other]
                with self.subTest(one=one, other=other):
                    if told is None:
                        self.assertEqual(both, set())
                    else:
                        self.assertEqual(plain(told), told)
                        self.assertIsNotNone(covers(one, told))
                        self.assertIsNotNone(covers(other, told))
                        self.assertEqual({form for form in both if covers(told, form) is None}, set())

    def test_depth(self):
        self.told(chain(39, gap(0)), chain(19, gap(0)), chain(39, gap(0)))
        self.told(chain(29, tie("a")), chain(28, gap(0)), chain(29, tie("a")))
        self.told(chain(29, tie("a")), chain(29, tie("b")), None)
        self.told(chain(29, tie("a")), chain(28, tie("a")), None)
        # Two gaps, each holding the other's chain: deeper than either form.
        self.told(
            tie("g", gap(0), chain(20, gap(0))),
            tie("g", chain(20, gap(0)), gap(1)),
            tie("g", chain(20, gap(0)), chain(40, gap(0))),
        )

    def test_many_gaps(self):
        def rows(leaves):
            leaves = list(leaves)
            lines = [tie("r", *leaves[start:start + 4]) for start in range(0, 16, 4)]
            return tie("t", *lines)

        self.told(rows(gap(place) for place in range(16)), rows(gap(999 - place) for place in range(16)),
                  rows(gap(place) for place in range(16)))
        self.told(rows(gap(place) for place in range(16)), rows([gap(3)] * 16), rows([gap(0)] * 16))
        self.told(rows([gap(3)] * 16), rows([gap(place) for place in range(15)] + [tie("a")]), rows([tie("a")] * 16))
        # Each gap is one with the one behind it, now by the one form, now by the other.
        self.told(rows(gap(place // 2) for place in range(16)), rows(gap((place + 1) // 2) for place in range(16)),
                  rows([gap(0)] * 16))

    def doubling(self, levels, parts):
        """Two forms of few signs: each of these levels stands `parts` times in the next one."""
        ones, others = [], []
        for level in range(levels):
            wide = tie("f", *[gap(level - 1 if level else 500)] * parts)
            ones.append(gap(level) if level % 2 == 0 else wide)
            others.append(wide if level % 2 == 0 else gap(level))
        while len(ones) > 1:
            ones = [tie("r", *ones[start:start + 4]) for start in range(0, len(ones), 4)]
            others = [tie("r", *others[start:start + 4]) for start in range(0, len(others), 4)]
        return ones[0], others[0]

    def test_may_be_larger_than_a_form(self):
        one, other = self.doubling(4, 4)
        level, levels = gap(0), []
        for _ in range(4):
            level = tie("f", *[level] * 4)
            levels.append(level)
        self.told(one, other, tie("r", *levels))
        self.assertGreater(len(flat(nearest(one, other))), 400)

    def test_may_be_very_much_larger(self):
        one, other = self.doubling(8, 4)
        self.assertLessEqual(len(flat(one)) + len(flat(other)), 60)
        sizes = [1]
        for _ in range(8):
            sizes.append(1 + 4 * sizes[-1])
        told = nearest(one, other)
        self.assertEqual(size_of(told, {}), 3 + sum(sizes[1:]))
        self.assertEqual(size_of(nearest(other, one), {}), 3 + sum(sizes[1:]))

    def test_large_ones_that_must_be_one(self):
        one, other = self.doubling(5, 2)
        anew = {number: gap(number + 100) for number in [0, 1, 2, 3, 4, 500]}
        first = tie("h", one, filled(one, anew), gap(4))
        same, one_off = tie("f", gap(103), gap(103)), gap(103)
        for innermost, top, there_is in [
            (({}, anew), same, True),
            (({}, anew), one_off, True),
            (({500: tie("a")}, {**anew, 500: tie("a")}), same, True),
            (({500: tie("a")}, {**anew, 500: tie("b")}), same, False),
            (({500: tie("a")}, {**anew, 500: tie("a")}), one_off, False),
            (({}, {**anew, 500: gap(500)}), same, True),
            (({}, {**anew, 500: gap(500)}), one_off, False),
        ]:
            second = tie("h", filled(other, innermost[0]), filled(other, innermost[1]), top)
            expected = by_steps(first, second)
            self.assertEqual(expected is not None, there_is)
            self.told(first, second, expected)

    def test_the_forms_handed_in_stay_as_they_were(self):
        one, other = tie("f", gap(4), gap(4)), tie("f", tie("g", gap(4)), gap(7))
        nearest(one, other)
        self.assertEqual((one, other), (tie("f", gap(4), gap(4)), tie("f", tie("g", gap(4)), gap(7))))
        self.told(one, other, tie("f", tie("g", gap(0)), tie("g", gap(0))))


if __name__ == "__main__":
    unittest.main()
