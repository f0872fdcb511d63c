import copy
import itertools
import random
import unittest

from elderline.errors import AtOdds
from elderline.merging import merged
from helping import BookTest, letters, told_by_the_words


def labels_for(rows):
    return [f"row{place}" for place in range(len(rows))]


def merge(rows):
    return merged(rows, labels_for(rows))


def keeps(line, row):
    places = [line.index(name) for name in row]
    return places == sorted(places)


class RingTest(BookTest):
    def ring(self, rows, labels):
        return self.refused(AtOdds, merged, rows, labels).ring

    def at_odds(self, rows):
        labels = labels_for(rows)
        ring = self.ring(rows, labels)
        self.check_ring(ring, rows, labels)
        return ring


class Merged(unittest.TestCase):
    def test_two_rows_apart_and_a_third(self):
        one = ["a", "b", "c"]
        two = ["x", "y", "z"]
        self.assertEqual(merge([one, two, []]), ["a", "b", "c", "x", "y", "z"])
        self.assertEqual(merge([one, two, list(one)]), ["a", "b", "c", "x", "y", "z"])
        self.assertEqual(merge([one, two, list(two)]), ["a", "b", "c", "x", "y", "z"])
        self.assertEqual(merge([one, two, one + two]), ["a", "b", "c", "x", "y", "z"])
        self.assertEqual(merge([one, two, two + one]), ["x", "y", "z", "a", "b", "c"])
        self.assertEqual(merge([one, two, ["x", "c"]]), ["a", "b", "x", "c", "y", "z"])

    def test_the_first_row_goes_on_as_long_as_it_may(self):
        self.assertEqual(merge([["a", "c"], ["b", "c"], ["b", "d"]]), ["a", "b", "c", "d"])
        self.assertEqual(merge([["a", "c", "e"], ["b", "c", "d"]]), ["a", "b", "c", "e", "d"])

    def test_the_first_row_is_looked_at_again_once_it_is_free(self):
        self.assertEqual(merge([["c", "d"], ["a", "c"], ["b", "e"]]), ["a", "c", "d", "b", "e"])

    def test_the_order_of_the_rows_tells(self):
        self.assertEqual(merge([["a"], ["b"]]), ["a", "b"])
        self.assertEqual(merge([["b"], ["a"]]), ["b", "a"])

    def test_no_rows(self):
        self.assertEqual(merged([], []), [])

    def test_empty_rows(self):
        self.assertEqual(merge([[]]), [])
        self.assertEqual(merge([[], [], []]), [])
        self.assertEqual(merge([[], ["b", "a"], [], ["c", "a"], []]), ["b", "c", "a"])

    def test_one_row(self):
        self.assertEqual(merge([["c", "a", "b"]]), ["c", "a", "b"])
        self.assertEqual(merge([["a"]]), ["a"])

    def test_rows_of_one_name(self):
        self.assertEqual(merge([["b"], ["a"], ["b"], ["c"], ["a"]]), ["b", "a", "c"])

    def test_several_rows_over_the_same_names(self):
        rows = [["a", "d"], ["b", "d"], ["c", "d"], ["c", "a"], ["b", "a"], ["d"]]
        self.assertEqual(merge(rows), ["b", "c", "a", "d"])
        self.assertEqual(merge([["a", "b", "c"]] * 5), ["a", "b", "c"])

    def test_the_answer_is_a_list_of_texts(self):
        answer = merge([["a", "b"], ["c", "b"]])
        self.assertIs(type(answer), list)
        self.assertEqual([type(name) for name in answer], [str, str, str])

    def test_names_that_share_most_of_their_letters(self):
        stem = "a" * 19
        names = [stem + "b", stem + "c", stem, "a" * 20, "a", "aa", "ab"]
        self.assertEqual(merge([names[:4], names[3:]]), names)
        self.assertEqual(merge([["ab", "a"], ["abc", "b"], ["c", "bc"]]), ["ab", "a", "abc", "b", "c", "bc"])

    def test_labels_tell_nothing_where_the_rows_agree(self):
        rows = [["a", "c"], ["b", "c"]]
        for labels in (["x", "x"], ["a", "b"], ["", ""], ["c", "a"]):
            self.assertEqual(merged(rows, labels), ["a", "b", "c"])


class LongRows(unittest.TestCase):
    def test_forty_names_in_a_row(self):
        names = letters(40)
        self.assertEqual(merge([names]), names)
        self.assertEqual(merge([names[::2], names[1::2], names]), names)
        self.assertEqual(merge([names[20:], names[:20]]), names[20:] + names[:20])

    def test_sixty_rows_with_no_name_in_common(self):
        rows = [letters(40, first=chr(97 + place % 26) * (1 + place // 26)) for place in range(60)]
        self.assertEqual(merge(rows), sum(rows, []))

    def test_sixty_rows_of_forty_names_that_follow_one_another(self):
        names = letters(60 * 39 + 1)
        rows = [names[place * 39:place * 39 + 40] for place in range(60)]
        self.assertEqual(merge(rows), names)
        self.assertEqual(merge(rows[::-1]), names)

    def test_sixty_rows_over_the_same_forty_names(self):
        names = letters(40)
        chance = random.Random(3)
        rows = []
        for length in range(60):
            kept = set(chance.sample(names, length % 41))
            rows.append([name for name in names if name in kept])
        answer = merge(rows)
        self.assertEqual(answer, told_by_the_words(rows))
        self.assertEqual(sorted(answer), names)
        for row in rows:
            self.assertTrue(keeps(answer, row))


class LongRowsAtOdds(RingTest):
    def test_sixty_rows_in_one_ring(self):
        names = letters(60)
        self.assertEqual(len(self.at_odds([[names[place - 1], names[place]] for place in range(60)])), 60)

    def test_forty_names_told_forwards_and_backwards(self):
        names = letters(40)
        self.at_odds([names, names[::-1]])
        self.at_odds([names, names[1:] + names[:1]])
        self.at_odds([names, names[:38] + [names[39], names[38]]])


class Refused(RingTest):
    def test_two_rows_that_lean_against_each_other(self):
        ring = self.at_odds([["a", "b"], ["b", "a"]])
        self.assertEqual(sorted(ring), [("a", "b", "row0"), ("b", "a", "row1")])

    def test_names_that_stand_apart_in_their_rows(self):
        self.at_odds([["a", "x", "b"], ["b", "y", "a"]])
        self.at_odds([["a", "b", "c", "d"], ["d", "a"]])

    def test_longer_rings(self):
        for length in range(3, 27):
            names = letters(length)
            rows = [[names[place - 1], names[place]] for place in range(length)]
            with self.subTest(length=length):
                self.assertEqual(len(self.at_odds(rows)), length)

    def test_a_ring_among_rows_that_are_merged_in_part_ahead(self):
        self.at_odds([["p", "q", "a", "b"], ["p", "b", "r", "a"], ["q", "s"]])
        self.at_odds([["a", "b", "c", "d", "e", "f"], ["a", "c"], ["f", "e"], []])

    def test_a_way_that_leads_into_the_ring_is_no_part_of_it(self):
        ring = self.at_odds([["x", "w"], ["a", "x"], ["a", "b"], ["b", "a"]])
        self.assertEqual({leaning[0] for leaning in ring}, {"a", "b"})

    def test_two_rings_at_once(self):
        self.at_odds([["a", "b"], ["c", "d"], ["b", "a"], ["d", "c"]])

    def test_empty_rows_among_rows_at_odds(self):
        self.at_odds([[], ["a", "b"], [], ["b", "a"], []])

    def test_names_that_share_most_of_their_letters(self):
        stem = "a" * 19
        self.at_odds([[stem + "b", stem + "c"], [stem + "c", "a" * 20], ["a" * 20, stem, stem + "b"]])
        self.at_odds([["a", "aa", "aaa"], ["aaa", "aa"]])

    def test_labels_stand_as_they_were_told(self):
        rows = [["a", "b"], ["b", "a"]]
        for labels in (["b", "a"], ["x", "x"], ["a", "a"], ["one row", "another row"]):
            with self.subTest(labels=labels):
                ring = self.ring(rows, labels)
                self.check_ring(ring, rows, labels)
                self.assertEqual(sorted(ring), [("a", "b", labels[0]), ("b", "a", labels[1])])

    def test_the_label_is_that_of_a_row_that_has_both_names(self):
        rows = [["c"], [], ["d", "a", "b"], ["c", "d"], ["b", "e", "a"]]
        ring = self.at_odds(rows)
        self.assertEqual(sorted(ring), [("a", "b", "row2"), ("b", "a", "row4")])


class AgainstOthers(RingTest):
    def random_rows(self, chance, names):
        count = chance.randrange(0, 6)
        return [chance.sample(names, chance.randrange(0, len(names) + 1)) for place in range(count)]

    def test_as_the_words_tell_it(self):
        chance = random.Random(1)
        merged_ones = 0
        refused_ones = 0
        for turn in range(4000):
            names = letters(chance.randrange(1, 9))
            rows = self.random_rows(chance, names)
            if chance.random() < 0.5:
                rows = [sorted(row) if chance.random() < 0.8 else row for row in rows]
            wanted = told_by_the_words(rows)
            if wanted is None:
                refused_ones += 1
                self.at_odds(rows)
            else:
                merged_ones += 1
                self.assertEqual(merge(rows), wanted)
        self.assertGreater(merged_ones, 500)
        self.assertGreater(refused_ones, 500)

    def test_refused_just_where_no_row_keeps_them_all(self):
        chance = random.Random(2)
        for turn in range(400):
            names = letters(5)
            rows = [chance.sample(names, chance.randrange(0, 4)) for place in range(chance.randrange(1, 5))]
            told = sorted(set(sum(rows, [])))
            lines = [list(line) for line in itertools.permutations(told)]
            kept = [line for line in lines if all(keeps(line, row) for row in rows)]
            if kept:
                self.assertIn(merge(rows), kept)
            else:
                self.at_odds(rows)

    def test_as_python_orders_its_own_classes(self):
        chance = random.Random(4)
        refused_ones = 0
        for turn in range(150):
            classes = {}
            orders = {}
            for name in letters(12):
                elders = chance.sample(list(classes), chance.randrange(0, min(4, len(classes)) + 1))
                rows = [orders[elder] for elder in elders] + [elders]
                try:
                    made = type(name, tuple(classes[elder] for elder in elders), {})
                except TypeError:
                    refused_ones += 1
                    self.at_odds(rows)
                else:
                    classes[name] = made
                    orders[name] = [name] + merge(rows)
                    self.assertEqual(orders[name], [one.__name__ for one in made.__mro__[:-1]])
        self.assertGreater(refused_ones, 50)


class NothingChanged(RingTest):
    AGREED = [["a", "c", "e"], [], ["b", "c", "d"]]
    AT_ODDS = [["p", "a", "b"], ["p", "q"], [], ["b", "c"], ["c", "a"]]

    def test_rows_and_labels_stay_where_it_answers(self):
        rows = copy.deepcopy(self.AGREED)
        labels = labels_for(rows)
        merged(rows, labels)
        self.assertEqual(rows, self.AGREED)
        self.assertEqual(labels, ["row0", "row1", "row2"])

    def test_rows_and_labels_stay_where_it_refuses(self):
        rows = copy.deepcopy(self.AT_ODDS)
        labels = labels_for(rows)
        self.ring(rows, labels)
        self.assertEqual(rows, self.AT_ODDS)
        self.assertEqual(labels, ["row0", "row1", "row2", "row3", "row4"])

    def test_asked_again_the_same_answer(self):
        rows = copy.deepcopy(self.AGREED)
        self.assertEqual([merge(rows) for turn in range(3)], [["a", "b", "c", "e", "d"]] * 3)

    def test_refused_again_with_the_same_ring(self):
        rows = copy.deepcopy(self.AT_ODDS)
        self.assertEqual(self.at_odds(rows), self.at_odds(rows))

    def test_an_answer_that_is_changed(self):
        rows = copy.deepcopy(self.AGREED)
        merge(rows).clear()
        merge(rows).append("z")
        self.assertEqual(rows, self.AGREED)
        self.assertEqual(merge(rows), ["a", "b", "c", "e", "d"])

    def test_the_answer_for_one_row_is_another_list(self):
        rows = [["a", "b"]]
        merge(rows).append("c")
        self.assertEqual(rows, [["a", "b"]])
        self.assertEqual(merge(rows), ["a", "b"])

    def test_a_ring_that_is_changed(self):
        rows = copy.deepcopy(self.AT_ODDS)
        wanted = list(self.at_odds(rows))
        self.at_odds(rows).clear()
        self.assertEqual(self.at_odds(rows), wanted)

    def test_rows_and_labels_that_are_changed_behind_the_call(self):
        rows = copy.deepcopy(self.AGREED)
        answer = merge(rows)
        rows[0].clear()
        rows.pop()
        self.assertEqual(answer, ["a", "b", "c", "e", "d"])
        rows = copy.deepcopy(self.AT_ODDS)
        labels = labels_for(rows)
        ring = self.ring(rows, labels)
        rows[3].reverse()
        labels.clear()
        self.check_ring(ring, self.AT_ODDS, labels_for(self.AT_ODDS))

    def test_one_list_handed_in_as_several_rows(self):
        row = ["a", "b", "c"]
        self.assertEqual(merge([row, row, row]), ["a", "b", "c"])
        self.assertEqual(row, ["a", "b", "c"])

    def test_a_call_leaves_nothing_behind_for_another(self):
        merge([["a", "b"]])
        self.assertEqual(merge([["b", "a"]]), ["b", "a"])
        self.at_odds(copy.deepcopy(self.AT_ODDS))
        self.assertEqual(merge([["c", "b", "a"]]), ["c", "b", "a"])


if __name__ == "__main__":
    unittest.main()
