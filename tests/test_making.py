import unittest

from elderline.errors import AtOdds
from elderline.making import made_order
from helping import BookTest


class Making(BookTest):
    def test_a_house_under_none(self):
        self.assertEqual(made_order("a", [], []), ["a"])

    def test_a_house_under_one(self):
        self.assertEqual(made_order("c", ["b"], [["b", "a"]]), ["c", "b", "a"])

    def test_a_house_under_several(self):
        orders = [["b", "a"], ["c", "a"]]
        self.assertEqual(made_order("d", ["b", "c"], orders), ["d", "b", "c", "a"])
        self.assertEqual(made_order("d", ["c", "b"], orders[::-1]), ["d", "c", "b", "a"])

    def test_the_row_of_elders_is_the_last_one(self):
        orders = [["b", "a"], ["c", "d"]]
        self.assertEqual(made_order("e", ["b", "c"], orders), ["e", "b", "a", "c", "d"])

    def test_the_row_of_elders_is_kept(self):
        ring = self.refused(AtOdds, made_order, "c", ["a", "b"], [["a"], ["b", "a"]]).ring
        self.assertEqual(sorted(ring), [("a", "b", "c"), ("b", "a", "b")])

    def test_the_labels_are_the_elders_and_the_house(self):
        ring = self.refused(AtOdds, made_order, "z", ["x", "y"], [["x", "a", "b"], ["y", "b", "a"]]).ring
        self.assertEqual(sorted(ring), [("a", "b", "x"), ("b", "a", "y")])

    def test_nothing_is_changed(self):
        elders = ["b", "c"]
        orders = [["b", "a"], ["c", "a"]]
        made_order("d", elders, orders).clear()
        self.assertEqual((elders, orders), (["b", "c"], [["b", "a"], ["c", "a"]]))


if __name__ == "__main__":
    unittest.main()
