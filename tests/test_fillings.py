import unittest

from commonforms.fillings import filled, one_filling
from commonforms.forms import gaps, looked
from samples import bush, chain, gap, small_fillings, small_forms, tie


class Filled(unittest.TestCase):
    def test_each_gap_whose_number_it_has(self):
        self.assertEqual(filled(gap(3), {3: tie("a")}), tie("a"))
        self.assertEqual(
            filled(tie("f", gap(0), tie("g", gap(1), gap(0))), {0: tie("a"), 1: tie("b", gap(5))}),
            tie("f", tie("a"), tie("g", tie("b", gap(5)), tie("a"))),
        )

    def test_gaps_that_it_has_not_stay(self):
        self.assertEqual(filled(gap(3), {}), gap(3))
        self.assertEqual(filled(gap(3), {2: tie("a")}), gap(3))
        self.assertEqual(
            filled(tie("f", gap(0), gap(1), gap(0)), {1: tie("a")}),
            tie("f", gap(0), tie("a"), gap(0)),
        )

    def test_numbers_that_the_form_has_not_do_nothing(self):
        self.assertEqual(filled(tie("f", tie("a")), {0: tie("b")}), tie("f", tie("a")))
        self.assertEqual(filled(tie("f", gap(2)), {0: tie("b"), 2: tie("c"), 999: gap(2)}), tie("f", tie("c")))

    def test_what_was_filled_in_is_not_filled_again(self):
        self.assertEqual(filled(gap(0), {0: tie("f", gap(0))}), tie("f", gap(0)))
        self.assertEqual(filled(gap(0), {0: gap(1), 1: tie("a")}), gap(1))
        self.assertEqual(filled(tie("f", gap(0), gap(1)), {0: gap(1), 1: gap(0)}), tie("f", gap(1), gap(0)))
        self.assertEqual(filled(tie("f", gap(1), gap(0)), {0: gap(1), 1: tie("a")}), tie("f", tie("a"), gap(1)))

    def test_the_empty_filling_changes_nothing(self):
        for form in small_forms():
            self.assertEqual(filled(form, {}), form)

    def test_gaps_filled_with_themselves(self):
        for form in small_forms():
            self.assertEqual(filled(form, {number: gap(number) for number in gaps(form)}), form)

    def test_the_filling_stays_as_it_was(self):
        for filling in small_fillings():
            before = list(filling.items())
            for form in small_forms():
                filled(form, filling)
            self.assertEqual(list(filling.items()), before)

    def test_later_changes_of_the_filling_change_nothing_told(self):
        filling = {0: tie("a"), 1: gap(0)}
        told = filled(tie("f", gap(0), gap(1), gap(2)), filling)
        filling[0] = tie("b")
        filling[2] = tie("c")
        filling.pop(1)
        self.assertEqual(told, tie("f", tie("a"), gap(0), gap(2)))
        self.assertEqual(filled(tie("f", gap(0), gap(1), gap(2)), filling), tie("f", tie("b"), gap(1), tie("c")))

    def test_may_be_larger_than_a_form(self):
        wide = tie("r", *[tie("r", *[gap(0)] * 4)] * 4)
        told = filled(wide, {0: bush(150)})
        self.assertEqual(told, tie("r", *[tie("r", *[bush(150)] * 4)] * 4))
        deep = filled(chain(39, gap(0)), {0: chain(39, gap(1))})
        self.assertEqual(deep, chain(78, gap(1)))
        self.assertEqual(filled(deep, {1: chain(39, tie("a"))}), chain(117, tie("a")))

    def test_sixty_numbers(self):
        rows = [tie("r", *[gap(4 * row + place) for place in range(4)]) for row in range(15)]
        form = tie("t", *[tie("s", *rows[start:start + 4]) for start in range(0, 15, 4)])
        told = filled(form, {number: gap(number + 100) for number in range(60)})
        self.assertEqual(gaps(told), list(range(100, 160)))
        self.assertEqual(looked(told), looked(form))


class OneFilling(unittest.TestCase):
    def test_by_example(self):
        self.assertEqual(
            one_filling({0: tie("f", gap(1)), 2: gap(3)}, {1: tie("a"), 2: tie("b")}),
            {0: tie("f", tie("a")), 1: tie("a"), 2: gap(3)},
        )
        self.assertEqual(one_filling({0: gap(1)}, {1: gap(0)}), {0: gap(0), 1: gap(0)})
        self.assertEqual(one_filling({}, {}), {})

    def test_the_empty_filling_on_either_side(self):
        for filling in small_fillings():
            self.assertEqual(one_filling(filling, {}), filling)
            self.assertEqual(one_filling({}, filling), filling)

    def test_just_the_numbers_of_both(self):
        for one in small_fillings():
            for other in small_fillings():
                self.assertEqual(sorted(one_filling(dict(one), dict(other))), sorted(set(one) | set(other)))

    def test_a_gap_filled_with_itself_keeps_its_number(self):
        self.assertEqual(one_filling({0: gap(1)}, {1: gap(0), 0: tie("a")}), {0: gap(0), 1: gap(0)})
        self.assertEqual(one_filling({0: gap(0)}, {}), {0: gap(0)})

    def test_fills_as_the_one_and_then_the_other(self):
        for one in small_fillings():
            for other in small_fillings():
                both = one_filling(dict(one), dict(other))
                for form in small_forms():
                    self.assertEqual(filled(form, both), filled(filled(form, one), other))

    def test_of_three_it_is_the_same_which_two_are_put_together_first(self):
        fillings = small_fillings()
        for one in fillings:
            for other in fillings:
                for third in fillings:
                    self.assertEqual(
                        one_filling(one_filling(dict(one), dict(other)), dict(third)),
                        one_filling(dict(one), one_filling(dict(other), dict(third))),
                    )

    def test_both_stay_as_they_were(self):
        for one in small_fillings():
            for other in small_fillings():
                before = list(one.items()), list(other.items())
                one_filling(one, other)
                self.assertEqual((list(one.items()), list(other.items())), before)

    def test_the_one_told_is_the_askers_own(self):
        for one in [{}, {0: gap(1)}]:
            for other in [{}, {1: tie("a")}]:
                before = dict(one), dict(other)
                told = one_filling(one, other)
                again = one_filling(one, other)
                expected = dict(again)
                told[0] = tie("changed")
                told[1] = tie("changed")
                told[5] = tie("changed")
                self.assertEqual((one, other), before)
                self.assertEqual(again, expected)
                self.assertEqual(one_filling(one, other), expected)

    def test_later_changes_of_both_change_nothing_told(self):
        one = {0: tie("f", gap(1))}
        other = {1: tie("a"), 2: tie("b")}
        told = one_filling(one, other)
        one[0] = gap(9)
        one[7] = gap(9)
        other[1] = gap(9)
        other.pop(2)
        self.assertEqual(told, {0: tie("f", tie("a")), 1: tie("a"), 2: tie("b")})

    def test_with_itself(self):
        filling = {0: tie("f", gap(0))}
        self.assertEqual(one_filling(filling, filling), {0: tie("f", tie("f", gap(0)))})
        self.assertEqual(filling, {0: tie("f", gap(0))})

    def test_may_tell_more_than_a_form(self):
        told = one_filling({0: tie("r", *[tie("r", *[gap(1)] * 4)] * 4)}, {1: bush(150)})
        self.assertEqual(told, {0: tie("r", *[tie("r", *[bush(150)] * 4)] * 4), 1: bush(150)})


if __name__ == "__main__":
    unittest.main()
