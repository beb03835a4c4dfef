import itertools
import random
import re
import unittest

from commonforms.errors import BadNote, FormError
from commonforms.forms import looked
from commonforms.notes import read, shown
from samples import bush, chain, flat, form_pairs, gap, grown, small_forms, tie

GAP = re.compile(r"\?(0|[1-9][0-9]{0,2})(?![0-9])")
WORD = re.compile(r"(?<![a-z])[a-z]{1,8}(?![a-z(])")
TIE = re.compile(r"(?<![a-z])[a-z]{1,8}\(F(,F){0,3}\)")


def writes_a_form(text):
    """Whether the text writes a form, found by putting F for what does until nothing else is left."""
    if re.search(r"[^?0-9a-z(),]", text) or len(re.findall(r"\?|[a-z]+", text)) > 200:
        return False
    depth = 1
    text = WORD.sub("F", GAP.sub("F", text))
    while TIE.search(text):
        # By way of another sign, so that one turn goes up one level.
        text = TIE.sub("G", text).replace("G", "F")
        depth += 1
    return text == "F" and depth <= 40


def all_notes(length):
    """The texts of up to this many signs that write forms out of gaps with the figures 0 and 1 and words of a."""
    lists = {}
    numbers = [0, 1, 10, 11, 100, 101, 110, 111]

    def rows(count, signs):
        """All rows of this many forms, with commas between, of just this many signs."""
        if count == 1:
            return forms(signs)
        return [
            one + "," + row
            for share in range(1, signs - 1) for one in forms(share) for row in rows(count - 1, signs - share - 1)
        ]

    def forms(signs):
        if signs not in lists:
            found = ["?" + str(number) for number in numbers if len(str(number)) == signs - 1]
            found += ["a" * signs] if 1 <= signs <= 8 else []
            for letters in range(1, signs - 2):
                for count in range(1, 5):
                    found += ["a" * letters + "(" + row + ")" for row in rows(count, signs - letters - 2)]
            lists[signs] = found
        return lists[signs]

    return [text for signs in range(1, length + 1) for text in forms(signs)]


class Shown(unittest.TestCase):
    def test_by_example(self):
        self.assertEqual(shown(tie("f", tie("a"), tie("g", gap(0)), gap(12))), "f(a,g(?0),?12)")

    def test_gaps(self):
        for number in [0, 1, 9, 10, 12, 100, 900, 999]:
            self.assertEqual(shown(gap(number)), "?" + str(number))

    def test_ties(self):
        self.assertEqual(shown(tie("a")), "a")
        self.assertEqual(shown(tie("abcdefgh")), "abcdefgh")
        self.assertEqual(shown(tie("f", tie("a"))), "f(a)")
        self.assertEqual(shown(tie("f", gap(1), gap(2), gap(3), gap(4))), "f(?1,?2,?3,?4)")
        self.assertEqual(shown(tie("f", tie("f"), tie("f", tie("f"), tie("f")))), "f(f,f(f,f))")
        self.assertEqual(shown(tie("gap", tie("tie"))), "gap(tie)")

    def test_bounds(self):
        self.assertEqual(shown(chain(39, gap(999))), "f(" * 39 + "?999" + ")" * 39)
        self.assertEqual(len(re.findall(r"[ab]", shown(bush(200)))), 200)


class Read(unittest.TestCase):
    def refused(self, text):
        with self.subTest(text=text):
            with self.assertRaises(BadNote):
                read(text)

    def test_by_example(self):
        self.assertEqual(read("f(a,g(?0),?12)"), tie("f", tie("a"), tie("g", gap(0)), gap(12)))

    def test_gaps(self):
        for number in range(1000):
            self.assertEqual(read("?" + str(number)), gap(number))

    def test_words(self):
        for word in ["a", "z", "az", "abcdefgh", "stuvwxyz", "gap", "tie"]:
            self.assertEqual(read(word), tie(word))
            self.assertEqual(read(word + "(" + word + ")"), tie(word, tie(word)))

    def test_numbers_of_parts(self):
        for count in range(1, 5):
            self.assertEqual(read("f(" + ",".join(["a"] * count) + ")"), tie("f", *[tie("a")] * count))
        for count in [5, 6, 20, 100, 450]:
            self.refused("f(" + ",".join(["a"] * count) + ")")
            self.refused("g(?0,f(" + ",".join(["?1"] * min(count, 300)) + "))")

    def test_what_is_shown_is_read(self):
        forms = small_forms() + [bush(200), chain(39, gap(999)), chain(39, tie("abcdefgh"))]
        forms += [form for pair in form_pairs(23, 200, 100, [0, 7, 10, 99, 100, 999]) for form in pair]
        for form in forms:
            self.assertEqual(read(shown(form)), form)

    def test_what_is_read_is_shown(self):
        for text in all_notes(9):
            self.assertEqual(shown(read(text)), text)

    def test_all_short_texts(self):
        notes = set(all_notes(6))
        for length in range(7):
            for signs in itertools.product("?01a(),", repeat=length):
                text = "".join(signs)
                try:
                    form = read(text)
                except BadNote:
                    form = None
                self.assertEqual(form is not None, text in notes, text)
                if form is not None:
                    self.assertEqual(shown(form), text)

    def test_numbers_above_the_highest(self):
        for number in ["1000", "1001", "9990", "99999", "1" + "0" * 30, "9" * 990]:
            self.refused("?" + number)
            self.refused("f(?" + number + ")")

    def test_needless_noughts(self):
        for number in ["00", "01", "000", "007", "0999", "010", "0" * 900, "00000000000001"]:
            self.refused("?" + number)
            self.refused("f(a,?" + number + ")")

    def test_other_ways_to_write_numbers(self):
        for number in ["", "-1", "-0", "+1", "1_0", "1_000", " 1", "1 ", "0x1", "1e1", "1.0", "a", "?", "?1", "(1)"]:
            self.refused("?" + number)
            self.refused("f(?" + number + ")")
        for text in ["0", "1", "12", "f(1)", "f(0,a)", "1?", "f(a,1?)"]:
            self.refused(text)

    def test_other_words(self):
        for word in ["", "abcdefghi", "a" * 990, "A", "aB", "Ab", "a1", "1a", "a_b", "_", "a-b", "a.b", "a b", "'a'"]:
            self.refused(word)
            self.refused("f(" + word + ")")
            self.refused(word + "(a)")

    def test_every_sign_at_every_place(self):
        signs = [chr(code) for code in range(ord(" "), ord("~") + 1) if chr(code) != "%"] + ["\t", "\n", "\r"]
        for text in ["f(a,g(?0),?12)", "?7", "ab", "f(?1)"]:
            for place in range(len(text) + 1):
                for sign in signs:
                    self.same_as_by_trial(text[:place] + sign + text[place:])
                    self.same_as_by_trial(text[:place] + sign + text[place + 1:])
                self.same_as_by_trial(text[:place] + text[place + 1:])
                self.same_as_by_trial(text[:place])
                self.same_as_by_trial(text[place:])

    def same_as_by_trial(self, text):
        with self.subTest(text=text):
            if writes_a_form(text):
                self.assertEqual(shown(read(text)), text)
            else:
                with self.assertRaises(BadNote):
                    read(text)

    def test_blanks_tabs_and_line_ends(self):
        text = "f(a,g(?0),?12)"
        for sign in [" ", "\t", "\n", "\r", "\n\n", "\t\n "]:
            self.refused(sign)
            for place in range(len(text) + 1):
                self.refused(text[:place] + sign + text[place:])

    def test_brackets_and_commas(self):
        for text in [
            "", "()", "(a)", "((a))", "a()", "f(())", "f(a", "f(a,", "f(a,b", "f(", "f(a))", "f(a)a", "f(a)(b)",
            "f(a)b(c)", "f(,)", "f(,a)", "f(a,)", "f(a,,b)", ",", "a,", ",a", "a,b", "?0,?1", "f(a),", "f(a),b", ")",
            "a)", "f)a(", "?0(a)", "?0()", "f(?0(a))", "f(a()))", "f(a(),b)", "f(a b)", "f(a;b)", "f[a]", "f{a}",
            "f(a]", "f(g(a)", "f(g(a", "f(g(a)))", "f(g(a)b)", "f(g(a),)", "f(a)?0", "?0a", "a?0", "??0", "?0?1",
            "f(?0?1)", "f(?0a)", "f(a?0)",
        ]:
            self.refused(text)

    def test_numbers_of_signs(self):
        for count in [1, 2, 5, 100, 199, 200]:
            self.assertEqual(looked(read(shown(bush(count)))), count)
        for count in [201, 202, 250, 299]:
            self.assertLessEqual(len(shown(bush(count))), 1000)
            self.refused(shown(bush(count)))

    def test_depth(self):
        for end in ["?0", "a"]:
            for brackets in [1, 20, 38, 39]:
                self.assertEqual(looked(read("f(" * brackets + end + ")" * brackets)), brackets + 1)
            for brackets in [40, 41, 50, 59, 60]:
                self.refused("f(" * brackets + end + ")" * brackets)
                self.refused("f(a," * brackets + end + ")" * brackets)

    def test_both_bounds_at_once(self):
        form = tie("f", chain(38, gap(999)), bush(160))
        self.assertEqual(read(shown(form)), form)
        self.refused(shown(tie("f", chain(38, gap(999)), bush(161))))
        self.refused(shown(tie("f", chain(39, gap(999)), bush(159))))

    def test_texts_of_some_hundred_signs(self):
        wide = tie("abcdefgh", *[tie("abcdefgh", *[tie("abcdefgh", *[tie("abcdefgh")] * 4)] * 4)] * 4)
        text = shown(wide)
        self.assertGreater(len(text), 700)
        self.assertEqual(read(text), wide)
        for place in range(len(text)):
            self.same_as_by_trial(text[:place] + text[place + 1:])
        for place in range(1, len(text)):
            self.refused(text[:place] + " " + text[place:])
        self.assertEqual(read(shown(chain(39, tie("abcdefgh")))), chain(39, tie("abcdefgh")))

    def test_sixty_open_brackets(self):
        for text in ["f(" * 60, "(" * 60, "f(" * 60 + "a" + ")" * 59, "f(" * 60 + "a" + ")" * 61, "f(a," * 60,
                     "f(" * 60 + ")" * 60, "f(" * 60 + "?" + ")" * 60, "(" * 60 + "a" + ")" * 60, "?(" * 60]:
            self.refused(text)

    def test_texts_of_a_thousand_signs(self):
        for text in ["a" * 1000, "?" * 1000, "," * 1000, ")" * 1000, " " * 1000, "~" * 1000, "\n" * 1000, "a," * 500,
                     "?" + "1" * 999, "a()" * 333, "f(" + "a," * 498 + "a)", "f(a)" * 250, "f(?0,?1)" * 125]:
            self.assertLessEqual(len(text), 1000)
            self.refused(text)

    def test_texts_changed_at_several_places(self):
        chance = random.Random(29)
        for _ in range(2000):
            text = shown(grown(chance, chance.randint(1, 30), [0, 3, 10, 999]))
            for _ in range(chance.randint(1, 3)):
                place = chance.randint(0, len(text))
                sign = chance.choice(["", "a", "0", "?", "(", ")", ",", " ", "9"])
                text = text[:place] + sign + text[place + chance.randint(0, 1):]
            self.same_as_by_trial(text)

    def test_refusals_are_form_errors(self):
        for text in ["", "a()", "?1000", "abcdefghi", shown(bush(201)), shown(chain(40, gap(0)))]:
            with self.assertRaises(FormError):
                read(text)

    def test_what_is_read_is_made_of_tuples(self):
        for sign in flat(read("f(a,g(?0),?12)")):
            self.assertIsInstance(sign, tuple)
            if sign[0] == "tie":
                self.assertIsInstance(sign[2], tuple)
            else:
                self.assertIsInstance(sign[1], int)


if __name__ == "__main__":
    unittest.main()
