import unittest

from elderline import errors

REFUSALS = [
    "BadText", "BadBody", "BadNumber", "BadCount", "Founded", "Unfounded",
    "Doubled", "AtOdds", "Unanswered", "Spent", "BadSource",
]


class Errors(unittest.TestCase):
    def test_book_error_stands_straight_under_value_error(self):
        self.assertEqual(errors.BookError.__bases__, (ValueError,))

    def test_each_refusal_stands_straight_under_book_error(self):
        for name in REFUSALS:
            with self.subTest(name):
                self.assertEqual(getattr(errors, name).__bases__, (errors.BookError,))

    def test_each_refusal_is_a_class_of_its_own(self):
        self.assertEqual(len({getattr(errors, name) for name in REFUSALS}), len(REFUSALS))

    def test_each_refusal_is_taken_as_a_book_error(self):
        for name in REFUSALS:
            refusal = getattr(errors, name)
            made = refusal([]) if name in ("AtOdds", "BadSource") else refusal()
            with self.subTest(name), self.assertRaises(errors.BookError):
                raise made

    def test_at_odds_has_its_ring(self):
        ring = [("a", "b", "x"), ("b", "a", "y")]
        self.assertEqual(errors.AtOdds(ring).ring, [("a", "b", "x"), ("b", "a", "y")])
        self.assertEqual(errors.AtOdds([]).ring, [])

    def test_bad_source_has_its_line(self):
        self.assertEqual(errors.BadSource(1).line, 1)
        self.assertEqual(errors.BadSource(120).line, 120)

    def test_two_objects_keep_their_own_values(self):
        one = errors.BadSource(1)
        other = errors.BadSource(2)
        self.assertEqual((one.line, other.line), (1, 2))
        first = errors.AtOdds([("a", "b", "x"), ("b", "a", "y")])
        errors.AtOdds([("c", "d", "x"), ("d", "c", "y")])
        self.assertEqual(first.ring, [("a", "b", "x"), ("b", "a", "y")])


if __name__ == "__main__":
    unittest.main()
