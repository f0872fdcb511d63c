import unittest

from elderline.errors import Spent, Unanswered
from elderline.tallying import Tally, first_place
from helping import BookTest


class Tallies(BookTest):
    def test_so_much_may_be_entered(self):
        for left in (0, 1, 2, 40):
            tally = Tally(left)
            for turn in range(left):
                tally.enter()
            for turn in range(3):
                self.refused(Spent, tally.enter)

    def test_nothing_is_said_at_first(self):
        one, other = Tally(1), Tally(1)
        one.said.append(5)
        self.assertEqual((one.said, other.said), ([5], []))

    def test_taking_back_keeps_what_was_said_ahead(self):
        tally = Tally(3)
        tally.said.extend([4, 5, 6])
        tally.take_back(3)
        self.assertEqual(tally.said, [4, 5, 6])
        tally.take_back(1)
        self.assertEqual(tally.said, [4])
        tally.take_back(0)
        self.assertEqual(tally.said, [])

    def test_taking_back_gives_no_count_back(self):
        tally = Tally(1)
        tally.enter()
        tally.take_back(0)
        self.refused(Spent, tally.enter)


class FirstPlaces(BookTest):
    def test_where_a_word_leads_to(self):
        starts = {"w": 3, "x": 0}
        self.assertEqual([first_place(starts, word) for word in "wx"], [3, 0])
        self.assertEqual(starts, {"w": 3, "x": 0})

    def test_a_word_that_is_no_key(self):
        for word in ("", "v", "ww", "W"):
            self.refused(Unanswered, first_place, {"w": 3}, word)
            self.refused(Unanswered, first_place, {}, word)


if __name__ == "__main__":
    unittest.main()
