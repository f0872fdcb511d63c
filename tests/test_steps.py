import unittest

from elderline.steps import is_body, is_step
from helping import NO_NAMES

BARE = ["say", "onwards"]
WITH_AMOUNT = ["put", "plus", "times", "both", "any", "odd"]
WITH_DIVISOR = ["over", "part"]
WITH_SHIFT = ["up", "down"]
ALL = BARE + WITH_AMOUNT + WITH_DIVISOR + WITH_SHIFT + ["ask", "try"]
GOOD = [
    ("say",), ("put", 1), ("plus", 1), ("times", 1), ("both", 1), ("any", 1), ("odd", 1), ("over", 1), ("part", 1),
    ("up", 1), ("down", 1), ("onwards",), ("ask", "a"), ("try", "a", "b"),
]
NO_NUMBERS = [True, False, None, "", "1", "a", 1.0, 0.5, float("nan"), [], [1], (), (1,), {}, b"1"]


class Steps(unittest.TestCase):
    def taken(self, *steps):
        for step in steps:
            with self.subTest(step=step):
                self.assertIs(is_step(step), True)
                self.assertIs(is_body([("say",), step, ("say",)]), True)

    def turned_away(self, *steps):
        for step in steps:
            with self.subTest(step=step):
                self.assertIs(is_step(step), False)
                self.assertIs(is_body([("say",), step, ("say",)]), False)

    def test_one_of_each_sort(self):
        self.assertEqual(sorted(step[0] for step in GOOD), sorted(ALL))
        self.taken(*GOOD)

    def test_too_few_parts_of_each_sort(self):
        self.turned_away(*[step[:-1] for step in GOOD])
        self.turned_away(("try",))

    def test_too_many_parts_of_each_sort(self):
        for more in (0, 1, "a", None, ()):
            self.turned_away(*[step + (more,) for step in GOOD])
            self.turned_away(*[step + (more, more) for step in GOOD])

    def test_amounts(self):
        for sort in WITH_AMOUNT:
            self.taken(*[(sort, n) for n in (-10 ** 30, 1 - 10 ** 30, -1, 0, 1, 65, 10 ** 30 - 1, 10 ** 30)])
            self.turned_away((sort, -10 ** 30 - 1), (sort, 10 ** 30 + 1), (sort, 10 ** 5000), (sort, -10 ** 60))

    def test_amounts_that_are_not_nought(self):
        for sort in WITH_DIVISOR:
            self.taken(*[(sort, n) for n in (-10 ** 30, 1 - 10 ** 30, -1, 1, 65, 10 ** 30 - 1, 10 ** 30)])
            self.turned_away((sort, 0), (sort, -0), (sort, -10 ** 30 - 1), (sort, 10 ** 30 + 1), (sort, 10 ** 5000))

    def test_moves(self):
        for sort in WITH_SHIFT:
            self.taken(*[(sort, n) for n in range(65)])
            self.turned_away(*[(sort, n) for n in (-10 ** 30, -64, -2, -1, 65, 66, 128, 10 ** 30)])

    def test_what_is_no_number(self):
        for sort in WITH_AMOUNT + WITH_DIVISOR + WITH_SHIFT:
            self.turned_away(*[(sort, value) for value in NO_NUMBERS])

    def test_words(self):
        words = ["a", "z", "a" * 20, "z" * 19, "say", "try", "else", "house", "nobody"]
        self.taken(*[("ask", word) for word in words])
        self.taken(*[("try", word, "b") for word in words])
        self.taken(*[("try", "b", word) for word in words])
        self.taken(*[("try", word, word) for word in words])

    def test_what_is_no_word(self):
        self.turned_away(*[("ask", value) for value in NO_NAMES])
        self.turned_away(*[("try", value, "b") for value in NO_NAMES])
        self.turned_away(*[("try", "b", value) for value in NO_NAMES])
        self.turned_away(*[("try", value, value) for value in NO_NAMES])

    def test_unknown_first_parts(self):
        sorts = ["", "Say", "SAY", " say", "say ", "says", "sa", "go", "none", "either", "minus", "word", "amount"]
        for sort in sorts + ["else", "say\n", "parts"]:
            self.turned_away((sort,), (sort, 1), (sort, "a"), (sort, "a", "b"))

    def test_first_parts_that_are_no_texts(self):
        for first in (None, True, False, 0, 1, 1.5, b"say", ("say",), ["say"], [], {}, {"say": 1}, {"say"}, object()):
            self.turned_away((first,), (first, 1), (first, "a"), (first, "a", "b"))

    def test_what_is_no_tuple(self):
        self.turned_away((), None, True, 0, 7, "", "say", "put", b"say")
        self.turned_away([], ["say"], ["put", 1], {}, {"say": 1}, {"say"})


class Bodies(unittest.TestCase):
    def test_nought_to_thirty_steps(self):
        for length in range(31):
            with self.subTest(length=length):
                self.assertIs(is_body([("say",)] * length), True)

    def test_more_than_thirty_steps(self):
        for length in (31, 32, 60, 1000):
            with self.subTest(length=length):
                self.assertIs(is_body([("say",)] * length), False)

    def test_one_bad_step_at_any_place(self):
        for place in range(30):
            body = [("say",)] * 30
            body[place] = ("over", 0)
            with self.subTest(place=place):
                self.assertIs(is_body(body), False)

    def test_what_is_no_list(self):
        values = [None, True, False, 0, 30, 1.5, "", "say", b"", (), ("say",), (("say",),)]
        for value in values + [{}, {("say",): 1}, {("say",)}]:
            with self.subTest(value=value):
                self.assertIs(is_body(value), False)

    def test_nothing_is_changed(self):
        body = list(GOOD)
        is_body(body)
        self.assertEqual(body, GOOD)
        body = GOOD + [["say"]]
        is_body(body)
        self.assertEqual(body, GOOD + [["say"]])


if __name__ == "__main__":
    unittest.main()
