import itertools
import unittest

from elderline.reckoning import reckoned
from helping import NUMBERS, WORK, worked

# A step, the number in hand ahead of it, what it says, and the number in hand behind it.
BY_HAND = [
    (("say",), 7, [7], 7), (("say",), 0, [0], 0), (("say",), -10 ** 40, [-10 ** 40], -10 ** 40),
    (("put", 3), 9, [], 3), (("put", 0), -5, [], 0), (("put", -10 ** 30), 1, [], -10 ** 30),
    (("plus", 3), 9, [], 12), (("plus", -3), 2, [], -1), (("plus", 10 ** 30), 10 ** 30, [], 2 * 10 ** 30),
    (("times", 3), -9, [], -27), (("times", 0), 9, [], 0), (("times", -1), -9, [], 9),
    (("times", 10 ** 30), 10 ** 30, [], 10 ** 60), (("times", -10 ** 30), 10 ** 30, [], -10 ** 60),
    (("over", 2), 7, [], 3), (("over", 2), -7, [], -4), (("over", -2), 7, [], -4), (("over", -2), -7, [], 3),
    (("over", 1), -7, [], -7), (("over", 10 ** 30), -1, [], -1), (("over", -10 ** 30), -1, [], 0),
    (("over", 10 ** 30), 10 ** 60 - 1, [], 10 ** 30 - 1),
    (("part", 10), 123, [3], 12), (("part", 10), -123, [7], -13), (("part", -10), 123, [-7], -13),
    (("part", -10), -123, [-3], 12), (("part", 10), 120, [0], 12), (("part", -10), 120, [0], -12),
    (("part", 1), 5, [0], 5), (("part", -1), 5, [0], -5), (("part", 10 ** 30), -1, [10 ** 30 - 1], -1),
    (("both", 12), 10, [], 8), (("both", -1), -9, [], -9), (("both", 6), -3, [], 4), (("both", -4), -3, [], -4),
    (("any", 12), 10, [], 14), (("any", -1), 9, [], -1), (("any", 6), -7, [], -1), (("any", 0), -7, [], -7),
    (("odd", 12), 10, [], 6), (("odd", -1), 9, [], -10), (("odd", 6), -3, [], -5), (("odd", 5), 5, [], 0),
    (("up", 0), -3, [], -3), (("up", 3), -3, [], -24), (("up", 64), 1, [], 18446744073709551616),
    (("down", 0), -3, [], -3), (("down", 1), 7, [], 3), (("down", 1), -7, [], -4), (("down", 64), -1, [], -1),
    (("down", 64), 10 ** 30, [], 54210108624), (("down", 64), -10 ** 30, [], -54210108625),
]


class Reckoning(unittest.TestCase):
    def check(self, step, number, said, behind):
        heap = [5, -5]
        self.assertEqual(reckoned(step, number, heap), behind, (step, number))
        self.assertEqual(heap, [5, -5] + said, (step, number))

    def test_by_hand(self):
        for step, number, said, behind in BY_HAND:
            self.check(step, number, said, behind)

    def test_the_tests_own_work_by_hand(self):
        for step, number, said, behind in BY_HAND:
            self.assertEqual(worked(step, number), (said, behind), (step, number))

    def test_every_sort_is_told_by_hand(self):
        self.assertEqual({step[0] for step, number, said, behind in BY_HAND}, {"say", *WORK})

    def test_small_amounts_and_amounts_at_the_bounds(self):
        amounts = [*range(-9, 10), -10 ** 30, 1 - 10 ** 30, 10 ** 30 - 1, 10 ** 30]
        for sort in set(WORK) - {"up", "down"}:
            for amount, number in itertools.product(amounts, NUMBERS):
                if amount != 0 or sort not in ("over", "part"):
                    self.check((sort, amount), number, *worked((sort, amount), number))

    def test_moves(self):
        for sort, amount, number in itertools.product(("up", "down"), range(65), NUMBERS):
            self.check((sort, amount), number, *worked((sort, amount), number))

    def test_a_remainder_has_the_amounts_sign_or_is_nought(self):
        for amount, number in itertools.product([*range(-9, 0), *range(1, 10), -10 ** 30, 10 ** 30], NUMBERS):
            said = []
            behind = reckoned(("part", amount), number, said)
            self.assertEqual(behind * amount + said[0], number)
            self.assertTrue(said[0] == 0 or (said[0] > 0) == (amount > 0))
            self.assertLess(abs(said[0]), abs(amount))


if __name__ == "__main__":
    unittest.main()
