import itertools
import random
import unittest

from commonforms.common import common, common_of
from commonforms.covering import alike, covers
from commonforms.errors import FormError, NoForms
from commonforms.fillings import filled
from commonforms.forms import gaps, plain
from samples import all_plain_forms, bush, chain, flat, form_pairs, gap, small_forms, tie


class Common(unittest.TestCase):
    def told(self, one, other, form, to_one, to_other):
        self.assertEqual(common(one, other), (form, to_one, to_other))
        # The pairs stand in the same order the other way about, so only the fillings change places.
        self.assertEqual(common(other, one), (form, to_other, to_one))

    def test_by_example(self):
        self.told(
            tie("f", tie("a"), tie("g", gap(0)), tie("a")),
            tie("f", tie("b"), gap(1), tie("b")),
            tie("f", gap(0), gap(1), gap(0)),
            {0: tie("a"), 1: tie("g", gap(0))},
            {0: tie("b"), 1: gap(1)},
        )

    def test_no_gaps_where_both_are_the_same_without_one(self):
        self.told(tie("a"), tie("a"), tie("a"), {}, {})
        form = tie("f", tie("a"), tie("g", tie("b")))
        self.told(form, form, form, {}, {})

    def test_a_gap_alone_where_the_tops_are_not_of_one_kind(self):
        self.told(tie("a"), tie("b"), gap(0), {0: tie("a")}, {0: tie("b")})
        self.told(gap(4), tie("b"), gap(0), {0: gap(4)}, {0: tie("b")})
        self.told(gap(4), gap(4), gap(0), {0: gap(4)}, {0: gap(4)})
        self.told(gap(4), gap(5), gap(0), {0: gap(4)}, {0: gap(5)})
        self.told(tie("f", gap(1)), tie("g", gap(1)), gap(0), {0: tie("f", gap(1))}, {0: tie("g", gap(1))})

    def test_ties_of_the_same_word_with_other_numbers_of_parts(self):
        forms = [tie("f", *[tie("a")] * count) for count in range(5)]
        for one, other in itertools.permutations(forms, 2):
            self.told(one, other, gap(0), {0: one}, {0: other})
            self.told(tie("g", one, one), tie("g", other, other), tie("g", gap(0), gap(0)), {0: one}, {0: other})

    def test_the_same_gap_for_the_same_pair(self):
        self.told(
            tie("f", tie("a"), tie("a"), tie("b"), tie("a")),
            tie("f", tie("b"), tie("b"), tie("c"), tie("b")),
            tie("f", gap(0), gap(0), gap(1), gap(0)),
            {0: tie("a"), 1: tie("b")},
            {0: tie("b"), 1: tie("c")},
        )

    def test_another_gap_where_only_one_of_the_pair_is_the_same(self):
        self.told(
            tie("f", tie("a"), tie("a"), tie("a")),
            tie("f", tie("b"), tie("c"), tie("b")),
            tie("f", gap(0), gap(1), gap(0)),
            {0: tie("a"), 1: tie("a")},
            {0: tie("b"), 1: tie("c")},
        )

    def test_another_gap_where_the_pair_is_the_other_way_about(self):
        self.told(
            tie("f", tie("a"), tie("b")),
            tie("f", tie("b"), tie("a")),
            tie("f", gap(0), gap(1)),
            {0: tie("a"), 1: tie("b")},
            {0: tie("b"), 1: tie("a")},
        )
        self.told(
            tie("f", gap(0), gap(1), gap(0)),
            tie("f", gap(1), gap(0), gap(1)),
            tie("f", gap(0), gap(1), gap(0)),
            {0: gap(0), 1: gap(1)},
            {0: gap(1), 1: gap(0)},
        )

    def test_gaps_of_the_two_forms(self):
        self.told(
            tie("f", gap(7), gap(7), gap(3)),
            tie("f", gap(7), gap(3), gap(3)),
            tie("f", gap(0), gap(1), gap(2)),
            {0: gap(7), 1: gap(7), 2: gap(3)},
            {0: gap(7), 1: gap(3), 2: gap(3)},
        )
        self.told(tie("f", gap(0)), tie("f", tie("f", gap(0))), tie("f", gap(0)), {0: gap(0)}, {0: tie("f", gap(0))})

    def test_numbered_in_the_order_in_which_they_first_stand(self):
        self.told(
            tie("f", tie("g", tie("a"), gap(9)), tie("b"), gap(9)),
            tie("f", tie("g", tie("b"), tie("a")), gap(2), tie("a")),
            tie("f", tie("g", gap(0), gap(1)), gap(2), gap(1)),
            {0: tie("a"), 1: gap(9), 2: tie("b")},
            {0: tie("b"), 1: tie("a"), 2: gap(2)},
        )

    def test_of_a_form_with_itself_is_its_plain_form(self):
        for form in small_forms() + [bush(100), chain(39, gap(8))]:
            own = {place: gap(number) for place, number in enumerate(gaps(form))}
            self.assertEqual(common(form, form), (plain(form), own, own))

    def hold(self, one, other):
        form, to_one, to_other = common(one, other)
        self.assertEqual(plain(form), form)
        self.assertEqual(list(range(len(to_one))), gaps(form))
        self.assertEqual(sorted(to_one), gaps(form))
        self.assertEqual(sorted(to_other), gaps(form))
        self.assertEqual(filled(form, to_one), one)
        self.assertEqual(filled(form, to_other), other)
        # One gap just where one pair: and no pair that could have gone on as ties of one kind.
        pairs = [(to_one[number], to_other[number]) for number in gaps(form)]
        self.assertEqual(len(set(pairs)), len(pairs))
        for first, second in pairs:
            if first[0] == "tie" and second[0] == "tie":
                self.assertNotEqual((first[1], len(first[2])), (second[1], len(second[2])))

    def test_the_fillings_make_it_the_two(self):
        for one in small_forms():
            for other in small_forms():
                self.hold(one, other)
        for one, other in form_pairs(11, 300, 100, list(range(5))):
            self.hold(one, other)

    def test_every_common_form_covers_it(self):
        forms = all_plain_forms(5)
        above = {form: {one for one in forms if covers(one, form) is not None} for form in forms}
        for one in forms:
            for other in forms:
                least = common(one, other)[0]
                self.assertEqual(above[one] & above[other], above[least])

    def test_bounds(self):
        self.told(chain(39, tie("a")), chain(39, tie("b")), chain(39, gap(0)), {0: tie("a")}, {0: tie("b")})
        self.told(chain(39, gap(9)), chain(30, gap(9)), chain(30, gap(0)), {0: chain(9, gap(9))}, {0: gap(9)})
        self.told(gap(0), bush(199), gap(0), {0: gap(0)}, {0: bush(199)})
        self.told(bush(100), bush(100), bush(100), {}, {})

    def test_many_gaps(self):
        def rows(leaves):
            leaves = list(leaves)
            lines = [tie("r", *leaves[start:start + 4]) for start in range(0, 64, 4)]
            return tie("t", *[tie("s", *lines[start:start + 4]) for start in range(0, 16, 4)])

        numbers = range(64)
        self.told(
            rows(gap(999 - number) for number in numbers),
            rows(tie("a") for number in numbers),
            rows(gap(number) for number in numbers),
            {number: gap(999 - number) for number in numbers},
            {number: tie("a") for number in numbers},
        )

    def test_what_is_told_is_the_askers_own(self):
        for one, other in [(gap(1), gap(1)), (tie("a"), tie("a")), (tie("f", gap(1)), tie("f", tie("a")))]:
            told, again = common(one, other), common(one, other)
            self.assertIsInstance(told, tuple)
            self.assertEqual(len({id(told[1]), id(told[2]), id(again[1]), id(again[2])}), 4)
            second = dict(told[2])
            told[1][0] = tie("changed")
            told[1][7] = tie("changed")
            self.assertEqual(told[2], second)
            told[2].clear()
            self.assertEqual(common(one, other), again)


class CommonOf(unittest.TestCase):
    def test_none(self):
        with self.assertRaises(NoForms):
            common_of([])
        with self.assertRaises(FormError):
            common_of([])

    def test_one(self):
        self.assertEqual(common_of([gap(7)]), gap(0))
        self.assertEqual(
            common_of([tie("f", gap(5), tie("g", gap(2), gap(5)))]),
            tie("f", gap(0), tie("g", gap(1), gap(0))),
        )
        for form in small_forms():
            self.assertEqual(common_of([form]), plain(form))

    def test_two(self):
        for one in small_forms():
            for other in small_forms():
                self.assertEqual(common_of([one, other]), common(one, other)[0])

    def test_several(self):
        forms = [
            tie("f", tie("a"), tie("a"), tie("g", tie("a"))),
            tie("f", tie("b"), tie("b"), tie("g", tie("b"))),
            tie("f", gap(0), gap(0), tie("g", gap(1))),
        ]
        self.assertEqual(common_of(forms), tie("f", gap(0), gap(0), tie("g", gap(1))))
        self.assertEqual(common_of(forms[:2]), tie("f", gap(0), gap(0), tie("g", gap(0))))
        self.assertEqual(common_of(forms + [tie("f", tie("a"), tie("b"), tie("c"))]), tie("f", gap(0), gap(1), gap(2)))
        self.assertEqual(common_of(forms + [tie("f", tie("a"), tie("b"))]), gap(0))

    def test_the_same_form_several_times(self):
        for form in small_forms():
            self.assertEqual(common_of([form, form, form]), plain(form))

    def test_in_whatever_order(self):
        chance = random.Random(3)
        forms = all_plain_forms(4) + small_forms()
        for _ in range(300):
            some = chance.sample(forms, 3) + [tie("g", chance.choice(forms), chance.choice(forms))]
            told = {common_of(list(order)) for order in itertools.permutations(some)}
            self.assertEqual(len(told), 1, some)

    def test_in_whatever_order_with_much_in_common(self):
        for one, other in form_pairs(17, 60, 40, [0, 1, 2]):
            some = [one, other, filled(one, {0: tie("a"), 1: gap(0)}), filled(other, {0: gap(1), 2: tie("g", gap(0))})]
            told = {common_of(list(order)) for order in itertools.permutations(some)}
            self.assertEqual(len(told), 1, some)

    def test_part_by_part(self):
        chance = random.Random(4)
        forms = all_plain_forms(5)
        for _ in range(300):
            some = chance.sample(forms, 4)
            whole = common_of(some)
            self.assertEqual(common_of([common_of(some[:2]), common_of(some[2:])]), whole)
            self.assertEqual(common_of([some[0], common_of(some[1:])]), whole)

    def test_is_the_one_that_every_common_form_covers(self):
        forms = all_plain_forms(4)
        above = {form: {one for one in forms if covers(one, form) is not None} for form in forms}
        for one, other, third in itertools.product(forms, repeat=3):
            least = common_of([one, other, third])
            self.assertEqual(above[one] & above[other] & above[third], above[least])

    def test_many_forms(self):
        self.assertEqual(common_of([tie("a")] * 200), tie("a"))
        self.assertEqual(common_of([tie("a")] * 199 + [tie("b")]), gap(0))
        ones = [tie("f", gap(number), gap(999 - number)) for number in range(60)]
        self.assertEqual(common_of(ones), tie("f", gap(0), gap(1)))
        self.assertEqual(common_of(ones + [tie("f", gap(5), gap(5))]), tie("f", gap(0), gap(1)))
        twos = [tie("f", gap(number), gap(number)) for number in range(60)]
        self.assertEqual(common_of(twos), tie("f", gap(0), gap(0)))

    def test_bounds(self):
        self.assertEqual(common_of([chain(39, gap(9)), chain(39, tie("a")), chain(39, tie("b"))]), chain(39, gap(0)))
        self.assertEqual(common_of([bush(200)]), bush(200))
        self.assertEqual(common_of([chain(39, gap(999))]), chain(39, gap(0)))

    def test_the_list_stays_as_it_was_and_nothing_hangs_on_it(self):
        forms = [tie("f", gap(3), tie("a")), tie("f", tie("b"), gap(1))]
        before = list(forms)
        told = common_of(forms)
        self.assertEqual(forms, before)
        forms.append(tie("c"))
        forms[0] = gap(0)
        self.assertEqual(told, tie("f", gap(0), gap(1)))
        self.assertEqual(common_of(before), told)
        self.assertEqual(common_of(forms), gap(0))

    def test_covers_each(self):
        for one, other in form_pairs(19, 60, 60, [0, 1]):
            least = common_of([one, other, tie("f", one, other)])
            self.assertEqual(plain(least), least)
            for form in [one, other, tie("f", one, other)]:
                self.assertIsNotNone(covers(least, form))
                self.assertLessEqual(len(flat(least)), len(flat(form)))
            self.assertTrue(alike(common_of([least, one]), least))


if __name__ == "__main__":
    unittest.main()
