import itertools
import unittest

from commonforms.covering import alike, covers
from commonforms.fillings import filled
from commonforms.forms import gaps, plain
from samples import all_plain_forms, bush, chain, flat, form_pairs, gap, small_fillings, small_forms, tie


def by_trial(one, other):
    """The filling that makes one the other, found by trying all that could."""
    numbers = sorted({sign[1] for sign in flat(one) if sign[0] == "gap"})
    found = []
    for choice in itertools.product(sorted(set(flat(other)), key=repr), repeat=len(numbers)):
        filling = dict(zip(numbers, choice))
        if filled(one, filling) == other:
            found.append(filling)
    return found


class Covers(unittest.TestCase):
    def test_by_example(self):
        self.assertEqual(
            covers(tie("f", gap(0), tie("g", gap(1))), tie("f", tie("a"), tie("g", tie("h", gap(0))))),
            {0: tie("a"), 1: tie("h", gap(0))},
        )
        self.assertEqual(covers(gap(7), tie("f", gap(7), gap(3))), {7: tie("f", gap(7), gap(3))})
        self.assertEqual(covers(gap(0), gap(5)), {0: gap(5)})

    def test_no_gaps(self):
        self.assertEqual(covers(tie("a"), tie("a")), {})
        self.assertEqual(covers(tie("f", tie("a"), tie("b")), tie("f", tie("a"), tie("b"))), {})
        self.assertIsNone(covers(tie("a"), tie("b")))
        self.assertIsNone(covers(tie("f", tie("a"), tie("b")), tie("f", tie("b"), tie("a"))))

    def test_a_tie_covers_no_gap(self):
        self.assertIsNone(covers(tie("a"), gap(0)))
        self.assertIsNone(covers(tie("f", gap(0)), gap(0)))
        self.assertIsNone(covers(tie("f", tie("a")), tie("f", gap(0))))

    def test_ties_of_the_same_word_with_other_numbers_of_parts(self):
        forms = [tie("f", *[gap(0)] * count) for count in range(5)]
        for one in forms:
            for other in forms:
                with self.subTest(one=one, other=other):
                    self.assertEqual(covers(one, other) is not None, one == other)
        self.assertIsNone(covers(tie("f", gap(0), gap(1)), tie("f", tie("a"), tie("b"), tie("c"))))
        self.assertIsNone(covers(tie("f", gap(0), gap(1), gap(2)), tie("f", tie("a"), tie("b"))))
        self.assertIsNone(covers(tie("f"), tie("f", tie("a"))))

    def test_ties_of_other_words_with_as_many_parts(self):
        self.assertIsNone(covers(tie("f", gap(0)), tie("g", tie("a"))))
        self.assertIsNone(covers(tie("f", tie("f", gap(0))), tie("f", tie("g", gap(0)))))

    def test_a_gap_that_stands_several_times_is_the_same_form_each_time(self):
        self.assertEqual(covers(tie("f", gap(3), gap(3)), tie("f", tie("a"), tie("a"))), {3: tie("a")})
        self.assertIsNone(covers(tie("f", gap(3), gap(3)), tie("f", tie("a"), tie("b"))))
        self.assertIsNone(covers(tie("f", gap(3), gap(3)), tie("f", gap(0), gap(1))))
        self.assertIsNone(covers(tie("f", gap(3), gap(3)), tie("f", gap(3), tie("g", gap(3)))))
        self.assertEqual(covers(tie("f", gap(3), gap(3)), tie("f", gap(0), gap(0))), {3: gap(0)})
        self.assertEqual(
            covers(tie("f", gap(0), tie("g", gap(1), gap(0))), tie("f", gap(1), tie("g", gap(0), gap(1)))),
            {0: gap(1), 1: gap(0)},
        )
        self.assertIsNone(covers(tie("f", gap(0), gap(1), gap(0)), tie("f", gap(1), gap(0), gap(0))))

    def test_a_mismatch_behind_a_match(self):
        for place in range(4):
            parts = [tie("a"), gap(2), tie("g", gap(0)), tie("b")]
            one = [gap(0), gap(1), gap(2), gap(3)]
            one[place] = tie("other")
            with self.subTest(place=place):
                self.assertIsNone(covers(tie("f", *one), tie("f", *parts)))

    def test_gaps_of_the_same_number_have_nothing_to_do_with_one_another(self):
        self.assertEqual(covers(gap(0), tie("f", gap(0))), {0: tie("f", gap(0))})
        self.assertEqual(covers(tie("f", gap(0), gap(1)), tie("f", gap(1), gap(1))), {0: gap(1), 1: gap(1)})
        self.assertEqual(covers(tie("f", gap(0), gap(1)), tie("f", gap(1), gap(0))), {0: gap(1), 1: gap(0)})
        self.assertEqual(
            covers(tie("f", gap(0), gap(1)), tie("f", tie("g", gap(1)), tie("g", gap(0)))),
            {0: tie("g", gap(1)), 1: tie("g", gap(0))},
        )

    def test_by_trial_of_all_fillings(self):
        for one in small_forms():
            for other in small_forms():
                found = by_trial(one, other)
                with self.subTest(one=one, other=other):
                    self.assertLessEqual(len(found), 1)
                    self.assertEqual(covers(one, other), found[0] if found else None)

    def test_the_filling_has_just_the_numbers_of_its_gaps(self):
        for one in small_forms():
            for filling in small_fillings():
                told = covers(one, filled(one, filling))
                expected = {number: filling.get(number, gap(number)) for number in gaps(one)}
                with self.subTest(one=one, filling=filling):
                    self.assertEqual(told, expected)

    def test_every_form_covers_itself(self):
        for form in small_forms() + [bush(100), chain(39, gap(4))]:
            self.assertEqual(covers(form, form), {number: gap(number) for number in gaps(form)})

    def test_what_covers_a_form_covers_what_that_one_covers(self):
        forms = all_plain_forms(4)
        above = {form: {one for one in forms if covers(one, form) is not None} for form in forms}
        for form in forms:
            for one in above[form]:
                self.assertLessEqual(above[one], above[form])

    def test_bounds(self):
        self.assertEqual(covers(chain(39, gap(9)), chain(39, tie("a"))), {9: tie("a")})
        self.assertEqual(covers(chain(20, gap(9)), chain(39, tie("a"))), {9: chain(19, tie("a"))})
        self.assertIsNone(covers(chain(39, tie("a")), chain(20, gap(9))))
        self.assertIsNone(covers(chain(39, tie("a")), chain(39, tie("b"))))
        self.assertEqual(covers(gap(999), bush(199)), {999: bush(199)})
        self.assertEqual(covers(bush(100), bush(100)), {})
        self.assertIsNone(covers(bush(99), bush(101)))

    def test_many_gaps(self):
        def rows(leaves):
            leaves = list(leaves)
            lines = [tie("r", *leaves[start:start + 4]) for start in range(0, 64, 4)]
            return tie("t", *[tie("s", *lines[start:start + 4]) for start in range(0, 16, 4)])

        one = rows(gap(number) for number in range(64))
        other = rows(gap(999 - number) for number in range(64))
        self.assertEqual(covers(one, other), {number: gap(999 - number) for number in range(64)})
        self.assertEqual(covers(one, rows([gap(5)] * 64)), {number: gap(5) for number in range(64)})
        self.assertIsNone(covers(rows([gap(5)] * 64), one))

    def test_the_filling_told_is_the_askers_own(self):
        one, other = tie("f", gap(0), gap(1)), tie("f", tie("a"), gap(0))
        told, again = covers(one, other), covers(one, other)
        told[0] = tie("changed")
        told[7] = tie("changed")
        self.assertEqual(again, {0: tie("a"), 1: gap(0)})
        self.assertEqual(covers(one, other), {0: tie("a"), 1: gap(0)})
        none = covers(tie("a"), tie("a"))
        none[0] = gap(0)
        self.assertEqual(covers(tie("a"), tie("a")), {})

    def test_a_refusal_leaves_nothing_behind(self):
        self.assertIsNone(covers(tie("f", gap(0), tie("a")), tie("f", tie("b"), tie("b"))))
        self.assertEqual(covers(tie("f", gap(0), tie("a")), tie("f", tie("c"), tie("a"))), {0: tie("c")})


class Alike(unittest.TestCase):
    def test_by_example(self):
        self.assertIs(alike(gap(3), gap(8)), True)
        self.assertIs(alike(tie("a"), tie("a")), True)
        self.assertIs(alike(tie("f", gap(0), gap(1)), tie("f", gap(1), gap(0))), True)
        self.assertIs(alike(tie("f", gap(5), gap(5)), tie("f", gap(0), gap(0))), True)
        self.assertIs(alike(tie("f", gap(2), tie("g", gap(7))), tie("f", gap(7), tie("g", gap(2)))), True)

    def test_where_only_one_covers_the_other(self):
        pairs = [
            (gap(0), tie("a")),
            (gap(0), tie("f", gap(0))),
            (tie("f", gap(0), gap(1)), tie("f", gap(0), gap(0))),
            (tie("f", gap(0)), tie("f", tie("a"))),
        ]
        for one, other in pairs:
            with self.subTest(one=one, other=other):
                self.assertIs(alike(one, other), False)
                self.assertIs(alike(other, one), False)

    def test_where_neither_covers_the_other(self):
        pairs = [
            (tie("a"), tie("b")),
            (tie("f", gap(0)), tie("f", gap(0), gap(0))),
            (tie("f", gap(0), tie("a")), tie("f", tie("a"), gap(0))),
            (tie("f", gap(0), gap(0), gap(1)), tie("f", gap(0), gap(1), gap(1))),
        ]
        for one, other in pairs:
            with self.subTest(one=one, other=other):
                self.assertIs(alike(one, other), False)
                self.assertIs(alike(other, one), False)

    def test_just_where_the_plain_forms_are_the_same(self):
        pairs = [(one, other) for one in small_forms() for other in small_forms()]
        for one, other in pairs + form_pairs(5, 200, 60, list(range(6))):
            with self.subTest(one=one, other=other):
                self.assertIs(alike(one, other), plain(one) == plain(other))
                self.assertIs(alike(one, other), covers(one, other) is not None and covers(other, one) is not None)

    def test_with_its_own_plain_form(self):
        for form in small_forms() + [chain(39, gap(4)), bush(100)]:
            self.assertIs(alike(form, plain(form)), True)
            self.assertIs(alike(form, filled(form, {0: gap(900), 1: gap(0), 2: gap(1)})), True)


if __name__ == "__main__":
    unittest.main()
