import unittest

from commonforms.errors import FormError, NoForm, TooMany
from commonforms.fillings import filled
from commonforms.forms import gaps, looked, plain, rank
from samples import bush, chain, gap, small_fillings, small_forms, tie


def places(form):
    """The form at the top, as each of four parts, and deep within."""
    yield form
    for place in range(4):
        parts = [tie("a"), gap(3), tie("b", gap(3)), tie("c")]
        parts[place] = form
        yield tie("top", *parts)
    yield chain(30, form)
    yield tie("g", bush(20), chain(10, tie("h", gap(1), form, bush(20))))


class Looked(unittest.TestCase):
    def right(self, form):
        for whole in places(form):
            with self.subTest(form=whole):
                self.assertGreaterEqual(looked(whole), 1)

    def wrong(self, form):
        for whole in places(form):
            with self.subTest(form=whole):
                with self.assertRaises(NoForm):
                    looked(whole)

    def test_counts_gaps_and_ties_as_often_as_they_stand(self):
        self.assertEqual(looked(gap(0)), 1)
        self.assertEqual(looked(tie("a")), 1)
        self.assertEqual(looked(tie("f", gap(0))), 2)
        self.assertEqual(looked(tie("f", gap(5), gap(5), tie("f", gap(5)))), 5)
        self.assertEqual(looked(tie("f", tie("a"), tie("g", gap(0)), gap(12))), 5)
        shared = tie("g", tie("a"), tie("a"))
        self.assertEqual(looked(tie("h", shared, shared, shared, shared)), 13)

    def test_one_word_may_have_parts_of_several_numbers(self):
        self.assertEqual(looked(tie("f", tie("f"), tie("f", tie("f", gap(0), gap(1), gap(2), gap(3))))), 8)

    def test_numbers_of_gaps(self):
        for number in [0, 1, 500, 998, 999]:
            self.right(gap(number))
        for number in [-1, -2, -999, 1000, 1001, 10 ** 30, -10 ** 30]:
            self.wrong(gap(number))

    def test_words(self):
        for word in ["a", "z", "az", "abcdefgh", "stuvwxyz", "gap", "tie"]:
            self.right(tie(word))
            self.right(tie(word, gap(0)))
        for word in ["", "abcdefghi", "a" * 200]:
            self.wrong(tie(word))
            self.wrong(tie(word, gap(0)))

    def test_words_with_another_sign(self):
        letters = "abcdefghijklmnopqrstuvwxyz"
        for sign in [chr(code) for code in range(ord(" "), ord("~") + 1)]:
            for word in [sign, "ab" + sign, sign + "ab", "a" + sign + "b", "abcdefg" + sign]:
                if sign in letters:
                    self.right(tie(word))
                else:
                    self.wrong(tie(word))

    def test_numbers_of_parts(self):
        for count in range(5):
            self.right(tie("f", *[gap(0)] * count))
            self.assertEqual(looked(tie("f", *[gap(0)] * count)), count + 1)
        for count in [5, 6, 20]:
            self.wrong(tie("f", *[gap(0)] * count))
            self.wrong(tie("f", *[tie("a")] * count))

    def test_numbers_of_signs(self):
        for count in [1, 2, 5, 6, 100, 199, 200]:
            self.assertEqual(looked(bush(count)), count)
        for count in [201, 202, 299, 300]:
            with self.subTest(count=count):
                with self.assertRaises(TooMany):
                    looked(bush(count))

    def test_gaps_of_one_number_count_each(self):
        full = tie("f", *[tie("g", *[tie("h", *[gap(0)] * 4)] * 4)] * 2)
        self.assertEqual(looked(full), 43)
        row = [full, full, full, full]
        self.assertEqual(looked(tie("w", *row)), 173)
        rest = tie("g", *[tie("h", *[gap(0)] * 4)] * 4)
        with self.assertRaises(TooMany):
            looked(tie("w", *row[:3], tie("w", full, rest, rest)))

    def test_depth(self):
        for end in [gap(0), tie("a")]:
            self.assertEqual(looked(chain(38, end)), 39)
            self.assertEqual(looked(chain(39, end)), 40)
            for ties in [40, 41, 59]:
                with self.subTest(end=end, ties=ties):
                    with self.assertRaises(TooMany):
                        looked(chain(ties, end))

    def test_depth_is_that_of_the_deepest_part(self):
        for place in range(4):
            parts = [gap(0), tie("a"), bush(20), gap(1)]
            parts[place] = chain(38, gap(0))
            with self.subTest(place=place):
                looked(tie("f", *parts))
                parts[place] = chain(39, gap(0))
                with self.assertRaises(TooMany):
                    looked(tie("f", *parts))

    def test_both_edges_at_once(self):
        self.assertEqual(looked(tie("f", chain(38, gap(999)), bush(160))), 200)

    def test_no_form_comes_ahead_of_too_many(self):
        bad = [gap(-1), gap(1000), tie(""), tie("abcdefghi"), tie("A"), tie("f", *[gap(0)] * 5)]
        for form in bad:
            large = [
                tie("f", form, bush(250)),
                tie("f", bush(250), form),
                tie("f", bush(250), chain(50, form)),
                tie("f", chain(50, form)),
                tie("f", form, chain(50, gap(0))),
                tie("f", chain(50, gap(0)), form),
            ]
            for whole in large:
                with self.subTest(form=whole):
                    with self.assertRaises(NoForm):
                        looked(whole)

    def test_too_many_by_parts_alone_is_no_form(self):
        with self.assertRaises(NoForm):
            looked(tie("f", *[tie("a")] * 250))

    def test_refusals_are_form_errors(self):
        for form in [gap(1000), bush(201), chain(40, gap(0))]:
            with self.assertRaises(FormError):
                looked(form)


class Gaps(unittest.TestCase):
    def test_each_once_in_the_order_in_which_they_first_stand(self):
        self.assertEqual(gaps(gap(7)), [7])
        self.assertEqual(gaps(tie("a")), [])
        self.assertEqual(gaps(tie("f", tie("a"), tie("b", tie("c")))), [])
        self.assertEqual(gaps(tie("f", gap(3), gap(1), gap(3), gap(0))), [3, 1, 0])
        self.assertEqual(gaps(tie("f", tie("g", gap(9), tie("h", gap(2))), gap(5), gap(9))), [9, 2, 5])
        self.assertEqual(gaps(tie("f", tie("g", tie("g", gap(999)), gap(4)), gap(0), gap(4))), [999, 4, 0])

    def test_deep_parts_come_ahead_of_later_ones(self):
        self.assertEqual(gaps(tie("f", chain(38, gap(8)), gap(1))), [8, 1])

    def test_many(self):
        rows = [tie("r", *[gap(999 - 4 * row - place) for place in range(4)]) for row in range(16)]
        form = tie("t", *[tie("s", *rows[start:start + 4]) for start in range(0, 16, 4)])
        self.assertEqual(gaps(form), list(range(999, 999 - 64, -1)))

    def test_the_list_told_is_the_askers_own(self):
        form = tie("f", gap(3), gap(1))
        told = gaps(form)
        again = gaps(form)
        self.assertIsInstance(told, list)
        told.append(8)
        told[0] = 9
        self.assertEqual(again, [3, 1])
        self.assertEqual(gaps(form), [3, 1])
        none = gaps(tie("a"))
        none.append(1)
        self.assertEqual(gaps(tie("a")), [])


class Rank(unittest.TestCase):
    def test_signs_less_gaps(self):
        self.assertEqual(rank(gap(5)), 0)
        self.assertEqual(rank(tie("a")), 1)
        self.assertEqual(rank(tie("f", gap(0))), 1)
        self.assertEqual(rank(tie("f", gap(0), gap(1))), 1)
        self.assertEqual(rank(tie("f", tie("a"), tie("g", gap(0)), gap(12))), 3)

    def test_a_gap_that_stands_several_times(self):
        self.assertEqual(rank(tie("f", gap(0), gap(0))), 2)
        self.assertEqual(rank(tie("f", gap(4), tie("g", gap(4), gap(1)), gap(4))), 4)
        self.assertEqual(rank(tie("f", gap(1), gap(0), gap(1), gap(0))), 3)

    def test_the_edge_of_signs(self):
        self.assertEqual(rank(bush(200)), 200)
        self.assertEqual(rank(chain(39, gap(0))), 39)

    def test_plain_forms_have_the_same(self):
        for form in small_forms():
            self.assertEqual(rank(form), rank(plain(form)))

    def test_what_a_form_is_filled_to_has_a_higher_one_or_is_alike(self):
        for form in small_forms():
            for filling in small_fillings():
                told = filled(form, filling)
                with self.subTest(form=form, filling=filling):
                    if plain(told) == plain(form):
                        self.assertEqual(rank(form), rank(told))
                    else:
                        self.assertLess(rank(form), rank(told))


class Plain(unittest.TestCase):
    def test_numbered_from_nought_in_the_order_in_which_they_first_stand(self):
        self.assertEqual(plain(gap(7)), gap(0))
        self.assertEqual(plain(gap(0)), gap(0))
        self.assertEqual(plain(tie("a")), tie("a"))
        self.assertEqual(plain(tie("f", gap(9), tie("g", gap(5), gap(9)))), tie("f", gap(0), tie("g", gap(1), gap(0))))

    def test_new_numbers_that_meet_old_ones(self):
        self.assertEqual(plain(tie("f", gap(1), gap(0))), tie("f", gap(0), gap(1)))
        self.assertEqual(plain(tie("f", gap(1), gap(2), gap(0))), tie("f", gap(0), gap(1), gap(2)))
        self.assertEqual(
            plain(tie("f", gap(2), tie("g", gap(0), gap(2)), gap(1), gap(0))),
            tie("f", gap(0), tie("g", gap(1), gap(0)), gap(2), gap(1)),
        )

    def test_of_a_plain_form_is_itself(self):
        for form in small_forms():
            told = plain(form)
            self.assertEqual(plain(told), told)
            self.assertEqual(gaps(told), list(range(len(gaps(form)))))

    def test_stays_a_form_of_tuples(self):
        form = tie("f", gap(3), tie("g", gap(1)))
        told = plain(form)
        self.assertEqual(looked(told), 4)
        self.assertIsInstance(told, tuple)
        self.assertIsInstance(told[2], tuple)
        self.assertEqual(form, tie("f", gap(3), tie("g", gap(1))))

    def test_the_edges_of_size(self):
        self.assertEqual(plain(chain(39, gap(999))), chain(39, gap(0)))
        self.assertEqual(plain(bush(200)), bush(200))


if __name__ == "__main__":
    unittest.main()
