import unittest

from commonforms.errors import BadNote, FormError, NoForm, NoForms, TooMany

KINDS = [NoForm, TooMany, NoForms, BadNote]


class Errors(unittest.TestCase):
    def test_any_refusal_is_a_value_error(self):
        self.assertTrue(issubclass(FormError, ValueError))

    def test_each_is_a_form_error_and_a_value_error(self):
        for kind in KINDS:
            with self.subTest(kind=kind):
                self.assertTrue(issubclass(kind, FormError))
                self.assertTrue(issubclass(kind, ValueError))
                with self.assertRaises(FormError):
                    raise kind("words")

    def test_none_is_under_another(self):
        for one in KINDS:
            for other in KINDS:
                if one is not other:
                    with self.subTest(one=one, other=other):
                        self.assertFalse(issubclass(one, other))

    def test_none_is_form_error_itself(self):
        self.assertNotIn(FormError, KINDS)


if __name__ == "__main__":
    unittest.main()
