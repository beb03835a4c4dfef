"""What the document promises of several functions together."""

import unittest

from commonforms.below import nearest
from commonforms.common import common, common_of
from commonforms.covering import alike, covers
from commonforms.fillings import filled, one_filling
from commonforms.forms import gaps, looked, plain, rank
from commonforms.notes import read, shown
from samples import all_plain_forms, bush, chain, flat, form_pairs, gap, small_fillings, small_forms, tie


def covered_pairs():
    """Pairs of forms of which the one covers the other, so that it is known how."""
    forms = small_forms() + [form for pair in form_pairs(31, 40, 12, [0, 1, 2]) for form in pair]
    return [(form, filled(form, filling)) for form in forms for filling in small_fillings()]


class Together(unittest.TestCase):
    def test_the_filling_told_makes_the_one_the_other(self):
        for one, other in covered_pairs():
            told = covers(one, other)
            self.assertEqual(filled(one, told), other)
            self.assertEqual(sorted(told), sorted(gaps(one)))

    def test_two_coverings_one_behind_the_other(self):
        for one, other in covered_pairs():
            for filling in small_fillings()[:8]:
                third = filled(other, filling)
                both = one_filling(covers(one, other), covers(other, third))
                told = covers(one, third)
                self.assertEqual(told, {number: both[number] for number in told})

    def test_alike_just_where_the_plain_forms_are_the_same(self):
        for one, other in covered_pairs():
            self.assertEqual(alike(one, other), plain(one) == plain(other))
            self.assertEqual(alike(other, one), plain(one) == plain(other))

    def test_the_rank_is_the_lesser_where_a_form_covers_another_that_is_not_alike(self):
        forms = all_plain_forms(5)
        for one in forms:
            for other in forms:
                if covers(one, other) is not None:
                    self.assertEqual(rank(one) < rank(other), not alike(one, other))
                    self.assertEqual(rank(one) == rank(other), alike(one, other))

    def test_where_one_form_covers_another(self):
        for one, other in covered_pairs():
            for pair in [(one, other), (other, one)]:
                self.assertEqual(common(*pair)[0], plain(one))
                self.assertEqual(common_of(list(pair)), plain(one))
                self.assertEqual(nearest(*pair), plain(other))
                self.assertTrue(alike(common(*pair)[0], one))
                self.assertTrue(alike(nearest(*pair), other))

    def test_just_there(self):
        forms = all_plain_forms(4)
        for one in forms:
            for other in forms:
                covered = covers(one, other) is not None
                self.assertEqual(alike(common(one, other)[0], one), covered)
                below = nearest(one, other)
                self.assertEqual(below is not None and alike(below, other), covered)

    def hold(self, one, other):
        least = common(one, other)[0]
        self.assertEqual(nearest(one, least), plain(one))
        self.assertEqual(nearest(other, least), plain(other))
        below = nearest(one, other)
        if below is not None and len(flat(below)) <= 100:
            self.assertEqual(common(one, below)[0], plain(one))
            self.assertEqual(common(other, below)[0], plain(other))
            self.assertEqual(common_of([one, other, below]), least)
            self.assertEqual(nearest(one, below), below)
        return below

    def test_a_form_and_what_it_makes_with_another(self):
        for one in small_forms():
            for other in small_forms():
                self.hold(one, other)
        found = [self.hold(one, other) for one, other in form_pairs(37, 400, 20, [0, 1, 2, 3])]
        self.assertGreater(len([form for form in found if form is not None]), 50)

    def test_the_ranks_of_what_two_forms_make(self):
        for one, other in form_pairs(41, 300, 30, [0, 1, 2, 3]):
            least, below = common(one, other)[0], nearest(one, other)
            self.assertLessEqual(rank(least), min(rank(one), rank(other)))
            if below is not None:
                self.assertGreaterEqual(rank(below), max(rank(one), rank(other)))

    def test_other_numbers_of_gaps_change_nothing(self):
        anew = {number: gap(900 - 7 * number) for number in range(4)}
        turned = {0: gap(3), 1: gap(2), 2: gap(0), 3: gap(1)}
        for one, other in form_pairs(43, 300, 30, [0, 1, 2, 3]):
            for filling in [anew, turned]:
                again = filled(one, filling)
                self.assertEqual(common(again, other)[0], common(one, other)[0])
                self.assertEqual(common(other, again)[0], common(other, one)[0])
                self.assertEqual(nearest(again, other), nearest(one, other))
                self.assertEqual(nearest(other, again), nearest(other, one))
                self.assertEqual(covers(again, other) is None, covers(one, other) is None)
                self.assertTrue(alike(one, again))

    def test_by_their_notes(self):
        one, other = read("f(a,g(?0),?0)"), read("f(?3,?1,?1)")
        self.assertEqual(shown(common(one, other)[0]), "f(?0,?1,?2)")
        self.assertIsNone(nearest(one, other))
        self.assertEqual(shown(nearest(read("f(a,g(?0),?1)"), other)), "f(a,g(?0),g(?0))")
        self.assertEqual(shown(common_of([read("f(a,a)"), read("f(b,b)"), read("f(?5,?5)")])), "f(?0,?0)")
        self.assertEqual(shown(plain(read("f(?9,g(?4,?9))"))), "f(?0,g(?1,?0))")

    def test_bounds(self):
        deep, ended = chain(39, gap(999)), chain(39, tie("a"))
        self.assertEqual(covers(deep, ended), {999: tie("a")})
        self.assertEqual(common(deep, ended)[0], plain(deep))
        self.assertEqual(common_of([deep, ended, read(shown(deep))]), plain(deep))
        self.assertEqual(nearest(chain(29, gap(0)), chain(28, gap(0))), chain(29, gap(0)))
        self.assertTrue(alike(bush(100), read(shown(bush(100)))))
        wide = tie("f", chain(38, gap(7)), bush(160))
        self.assertEqual((looked(wide), len(flat(wide))), (200, 200))
        self.assertEqual(read(shown(plain(wide))), plain(wide))
        self.assertEqual(common_of([wide]), plain(wide))
        self.assertEqual(rank(wide), 199)


if __name__ == "__main__":
    unittest.main()
