import string
import unittest

from elderline.plain import is_amount, is_name, is_text, is_whole

OTHER_KINDS = [None, [], ["a"], ("a",), {}, {"a": 1}, b"a", 1.0, 0.0, float("inf"), float("nan"), object()]


class Texts(unittest.TestCase):
    def test_signs_from_the_blank_to_the_tilde_and_line_ends(self):
        self.assertIs(is_text("".join(chr(sign) for sign in range(32, 127)) + "\n"), True)
        self.assertIs(is_text(""), True)
        self.assertIs(is_text("\n\n"), True)

    def test_no_other_sign(self):
        others = [chr(sign) for sign in range(32) if sign != 10]
        for sign in others + [chr(127), "\x80", "\xa0", "\xe9", "\u2028", "\U0001f600"]:
            with self.subTest(sign=sign):
                self.assertIs(is_text(sign), False)
                self.assertIs(is_text("a" + sign), False)
                self.assertIs(is_text(sign + "a"), False)

    def test_other_kinds_are_no_texts(self):
        for value in OTHER_KINDS + [0, 1, True, False]:
            with self.subTest(value=value):
                self.assertIs(is_text(value), False)


class Names(unittest.TestCase):
    def test_one_to_twenty_letters(self):
        for length in range(1, 21):
            with self.subTest(length=length):
                self.assertIs(is_name("z" * length), True)

    def test_none_and_too_many_letters(self):
        for length in (0, 21, 22, 1000):
            with self.subTest(length=length):
                self.assertIs(is_name("a" * length), False)

    def test_every_small_letter(self):
        for letter in string.ascii_lowercase:
            with self.subTest(letter=letter):
                self.assertIs(is_name(letter), True)

    def test_signs_that_are_no_small_letters(self):
        signs = [chr(sign) for sign in range(256) if chr(sign) not in string.ascii_lowercase]
        for sign in signs + ["\u0430", "\u0131", "\uff41", "\u017f"]:
            for text in (sign, "a" + sign, sign + "a", "a" + sign + "a"):
                with self.subTest(text=text):
                    self.assertIs(is_name(text), False)

    def test_other_kinds_are_no_names(self):
        for value in OTHER_KINDS + [0, 1, True, False]:
            with self.subTest(value=value):
                self.assertIs(is_name(value), False)


class Amounts(unittest.TestCase):
    def test_the_bounds_are_within(self):
        for value in (-10 ** 30, -10 ** 30 + 1, -1, 0, 1, 10 ** 30 - 1, 10 ** 30):
            with self.subTest(value=value):
                self.assertIs(is_amount(value), True)

    def test_beyond_the_bounds(self):
        for value in (-10 ** 30 - 1, 10 ** 30 + 1, 10 ** 60, -10 ** 60):
            with self.subTest(value=value):
                self.assertIs(is_amount(value), False)

    def test_true_and_false_are_no_numbers(self):
        for value in (True, False):
            with self.subTest(value=value):
                self.assertIs(is_amount(value), False)
                self.assertIs(is_whole(value, 0, 40), False)

    def test_other_kinds_are_no_numbers(self):
        for value in OTHER_KINDS + ["", "0", "1"]:
            with self.subTest(value=value):
                self.assertIs(is_amount(value), False)
                self.assertIs(is_whole(value, 0, 40), False)

    def test_whole_numbers_between_two_others(self):
        self.assertEqual([n for n in range(-3, 50) if is_whole(n, 0, 40)], list(range(0, 41)))
        self.assertIs(is_whole(7, 7, 7), True)
        self.assertIs(is_whole(7, 8, 7), False)


if __name__ == "__main__":
    unittest.main()
