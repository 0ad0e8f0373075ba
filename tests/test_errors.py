import unittest

from breakwords.errors import NoPattern, NoRow, NoThing, NoTongue, NoWord, TooNarrow, Twice, WordError

REFUSALS = [
    (NoWord, "place", 3),
    (NoPattern, "place", 0),
    (Twice, "word", "ab"),
    (NoTongue, "name", ""),
    (NoThing, "place", 59),
    (TooNarrow, "place", 1),
    (NoRow, None, "no such row"),
]


class Refusals(unittest.TestCase):
    def test_the_base_is_a_value_error(self):
        self.assertEqual(WordError.__bases__, (ValueError,))
        self.assertIsInstance(WordError("some words"), ValueError)

    def test_each_stands_straight_under_the_base(self):
        for refusal, _field, made_of in REFUSALS:
            with self.subTest(refusal=refusal.__name__):
                self.assertEqual(refusal.__bases__, (WordError,))
                self.assertIsInstance(refusal(made_of), WordError)
                self.assertIsInstance(refusal(made_of), ValueError)

    def test_none_is_one_of_the_other_six(self):
        for refusal, _field, made_of in REFUSALS:
            for other, _other_field, _other_made_of in REFUSALS:
                if other is not refusal:
                    with self.subTest(refusal=refusal.__name__, other=other.__name__):
                        self.assertNotIsInstance(refusal(made_of), other)

    def test_the_field_is_what_it_was_made_of(self):
        for refusal, field, made_of in REFUSALS:
            if field is not None:
                with self.subTest(refusal=refusal.__name__):
                    self.assertEqual(getattr(refusal(made_of), field), made_of)

    def test_fields_are_kept_by_each_object(self):
        one, other = NoWord(1), NoWord(2)
        self.assertEqual((one.place, other.place), (1, 2))

    def test_each_is_caught_as_the_base_and_can_be_shown(self):
        for refusal, _field, made_of in REFUSALS:
            with self.subTest(refusal=refusal.__name__):
                with self.assertRaises(WordError) as caught:
                    raise refusal(made_of)
                self.assertIs(type(caught.exception), refusal)
                self.assertIsInstance(str(caught.exception), str)


if __name__ == "__main__":
    unittest.main()
