"""Both ways of running rows, by steps and as woven functions: whatever is said of one is said of the other."""

import itertools
import random
import unittest

from elderline.errors import BadCount, BadNumber, BookError, Spent, Unanswered
from elderline.running import run
from elderline.weaving import woven_run
from helping import (
    CHANGES, LEADS, NO_COUNTS, NO_NUMBERS, NONE, NUMBERS, SAY, WORK, BookTest, either, ending, go, plain_step,
    rows_by_chance, walked,
)

WAYS = [run, woven_run]


class RunTest(BookTest):
    def end(self, starts, rows, *question):
        """How both ways end, which must be alike and leave what is handed in as it is."""
        before = dict(starts), [list(row) for row in rows]
        ends = [ending(way, starts, rows, *question) for way in WAYS]
        self.assertEqual(ends[0], ends[1], (starts, rows, question))
        self.assertEqual((starts, rows), before)
        return ends[0]

    def first(self, rows, *asked):
        """How the row at nought ends."""
        return self.end({"w": 0}, rows, "w", *asked)

    def check(self, needed, end, rows, number=0):
        """The row at nought is Spent with less than the count needed, and ends so with that count or more."""
        ends = [self.first(rows, number, count) for count in range(41)]
        self.assertEqual(ends, [Spent] * needed + [end] * (41 - needed))

    def refused_both_ways(self, refusal, *handed, **named):
        for way in WAYS:
            self.refused(refusal, lambda: way(*handed, **named))


class PlainSteps(RunTest):
    def test_nothing_is_said(self):
        self.assertEqual(self.first([[]]), [])
        self.assertEqual(self.first([[("put", 5)]], 7), [])

    def test_what_is_said_comes_in_order(self):
        row = [SAY, ("plus", 2), SAY, ("times", 3), SAY, SAY, ("put", 0), SAY]
        self.assertEqual(self.first([row], 5), [5, 7, 21, 21, 0])

    def test_division_is_rounded_down(self):
        self.assertEqual(self.first([[("over", 2), SAY, ("over", -2), SAY]], -7), [-4, 2])
        self.assertEqual(self.first([[("down", 1), SAY, ("down", 64), SAY]], -7), [-4, -1])

    def test_the_parts_of_a_number_are_said(self):
        self.assertEqual(self.first([[("part", 10), ("part", 10), SAY]], -432), [8, 6, -5])
        self.assertEqual(self.first([[("part", -10), ("part", -10), SAY]], 432), [-8, -4, 4])

    def test_bits(self):
        row = [("both", 6), SAY, ("any", -8), SAY, ("odd", -1), SAY, ("up", 64), SAY, ("down", 63), SAY]
        self.assertEqual(self.first([row], -3), [4, -4, 3, 55340232221128654848, 6])

    def test_a_number_grows_beyond_the_bounds(self):
        self.assertEqual(self.first([[("times", -10 ** 30)] * 29 + [SAY]], 10 ** 30), [-10 ** 900])

    def test_each_sort_with_each_amount(self):
        amounts = [*range(-9, 10), -10 ** 30, 1 - 10 ** 30, 10 ** 30 - 1, 10 ** 30]
        for sort, amount in itertools.product(WORK, amounts):
            if sort in ("up", "down"):
                amount = {-9: 0, 10 ** 30: 64}.get(amount, amount % 64)
            rows = [[SAY, (sort, amount if amount or sort not in ("over", "part") else 1), SAY]]
            for number in NUMBERS:
                self.assertEqual(self.first(rows, number), walked({"w": 0}, rows, "w", number), (rows, number))

    def test_rows_of_plain_steps_by_chance(self):
        chance = random.Random(51)
        for turn in range(200):
            rows = [[plain_step(chance) for step in range(turn % 31)]]
            for number in (chance.choice(NUMBERS), chance.randint(-10 ** 30, 10 ** 30), chance.randint(-9, 9)):
                self.assertEqual(self.first(rows, number), walked({"w": 0}, rows, "w", number))

    def test_answers_are_lists_of_whole_numbers(self):
        for way in WAYS:
            said = way({"w": 0}, [[SAY, ("part", 2), ("both", 1), SAY]], "w", 5)
            self.assertEqual((type(said), [type(number) for number in said]), (list, [int, int, int]))


class Leading(RunTest):
    def test_a_word_leads_to_its_row(self):
        rows = [[("put", 1), SAY], [("put", 2), SAY], [("put", 3), SAY]]
        starts = {"w": 2, "x": 0, "y": 1}
        self.assertEqual([self.end(starts, rows, word) for word in "wxy"], [[3], [1], [2]])

    def test_two_words_lead_to_one_row(self):
        self.assertEqual([self.end({"w": 1, "x": 1}, [[], [SAY]], word, 6) for word in "wx"], [[6], [6]])

    def test_a_go_goes_on_with_the_number_in_hand(self):
        rows = [[("plus", 1), go(1), SAY, go(1), SAY], [SAY, ("times", 3)]]
        self.check(3, [5, 15, 15, 45], rows, 4)

    def test_a_go_to_an_earlier_row(self):
        self.assertEqual(self.end({"w": 2}, [[SAY], [("plus", 1), go(0)], [go(1), go(0)]], "w"), [1, 1])

    def test_a_row_that_leads_to_itself(self):
        self.check(41, None, [[SAY, go(0)]])
        self.check(41, None, [[either(go(0), NONE)]])
        self.check(41, None, [[go(1)], [go(0)]])
        self.check(1, Unanswered, [[NONE, go(0)]])

    def test_a_none(self):
        self.check(1, Unanswered, [[NONE]])
        self.check(1, Unanswered, [[SAY, NONE, SAY]])
        self.check(2, Unanswered, [[go(1), NONE], [SAY]])
        self.check(3, Unanswered, [[go(1)], [SAY, go(2), SAY], [NONE]])

    def test_what_is_said_behind_a_go(self):
        self.check(2, [1, 2], [[go(1), ("plus", 1), SAY], [("plus", 1), SAY]])

    def test_a_chain_of_rows(self):
        for length in (1, 2, 39, 40, 41, 60):
            rows = [[("plus", 1), SAY, go(place + 1)] for place in range(length - 1)] + [[("plus", 1), SAY]]
            self.check(min(length, 41), list(range(1, length + 1)), rows)
            rows[-1] = [NONE]
            self.check(min(length, 41), Unanswered, rows)

    def test_number_and_count_left_out(self):
        self.assertEqual(self.first([[SAY, ("plus", 3), SAY]]), [0, 3])
        for length in (39, 40, 41, 42, 60):
            rows = [[("plus", 1), go(place + 1)] for place in range(length - 1)] + [[("plus", 1), SAY]]
            self.assertEqual(self.first(rows), [length] if length <= 40 else Spent)
            self.assertEqual(self.first(rows, 5), [length + 5] if length <= 40 else Spent)

    def test_arguments_by_their_names(self):
        for way in WAYS:
            self.assertEqual(way(starts={"w": 0}, rows=[[SAY]], word="w", number=3, count=1), [3])
            self.assertEqual(way({"w": 0}, [[SAY]], "w", count=1), [0])
        self.refused_both_ways(Spent, {"w": 0}, [[SAY]], "w", count=0)


class Eithers(RunTest):
    def test_the_one_answers(self):
        self.check(2, [4, 4], [[either(go(1), go(2)), SAY], [("plus", 1), SAY], [("put", 50), SAY]], 3)
        self.check(2, [4, 4], [[either(go(1), NONE), SAY], [("plus", 1), SAY]], 3)

    def test_the_one_is_a_none(self):
        self.check(2, [1, 3, 6], [[SAY, ("plus", 2), either(NONE, go(1)), SAY], [SAY, ("plus", 3)]], 1)

    def test_both_are_nones(self):
        self.check(1, Unanswered, [[SAY, either(NONE, NONE), SAY]])

    def test_what_the_one_said_and_changed_is_taken_back(self):
        rows = [[SAY, either(go(1), go(2)), SAY], [("plus", 7), SAY, ("part", 2), NONE], [SAY, ("plus", 1)]]
        self.check(3, [20, 20, 21], rows, 20)

    def test_a_none_at_a_depth_is_taken_back_too(self):
        rows = [
            [SAY, either(go(1), go(5)), SAY], [SAY, ("plus", 7), go(2), SAY], [SAY, ("part", 3), go(3)],
            [("put", 8), SAY, go(4), SAY], [SAY, NONE], [("plus", 1)],
        ]
        self.check(6, [20, 21], rows, 20)

    def test_what_was_entered_stays_counted(self):
        self.check(6, [1], [[either(go(1), go(2)), SAY], [go(2), go(2), go(2), NONE], [("plus", 1)]])
        self.check(11, [4], [[either(go(1), go(2))] * 3 + [go(2), SAY], [SAY, go(2), NONE], [("plus", 1)]])

    def test_an_unanswered_of_the_other_goes_on_outwards(self):
        self.check(2, Unanswered, [[SAY, either(NONE, go(1)), SAY], [SAY, NONE]])
        self.check(3, Unanswered, [[SAY, either(go(1), go(1)), SAY], [SAY, NONE]])
        self.check(2, Unanswered, [[SAY, either(go(1), NONE), SAY], [SAY, NONE]])

    def test_an_either_within_the_one(self):
        rows = [
            [either(go(1), go(4)), SAY], [("plus", 1), SAY, either(go(2), go(3)), ("plus", 1), SAY],
            [SAY, ("put", 77), NONE], [("times", 10), SAY], [("put", 55), SAY],
        ]
        self.check(4, [3, 30, 31, 31], rows, 2)
        rows[3] = [("times", 10), SAY, NONE]
        self.check(5, [55, 55], rows, 2)

    def test_an_either_within_the_other(self):
        rows = [
            [("plus", 1), either(go(1), go(2)), SAY], [("put", 9), SAY, NONE], [SAY, either(go(1), go(3)), SAY],
            [SAY, ("plus", 1)],
        ]
        self.check(5, [2, 2, 3, 3], rows, 1)
        rows[3] = [SAY, NONE]
        self.check(5, Unanswered, rows, 1)

    def test_eithers_on_both_sides(self):
        rows = [
            [SAY, either(go(1), go(2)), SAY], [("plus", 1), SAY, either(go(3), go(4))],
            [("plus", 2), SAY, either(go(4), go(5))], [("plus", 4), SAY, NONE], [("plus", 8), SAY, NONE],
            [("plus", 16), SAY],
        ]
        self.check(7, [0, 2, 18, 18], rows)

    def test_an_either_whose_one_ended_well_takes_nothing_back_later(self):
        rows = [[SAY, either(go(1), go(3)), SAY], [either(go(2), go(3)), NONE], [SAY], [("put", 5), SAY]]
        self.check(4, [0, 5, 5], rows)

    def test_a_row_that_comes_back_to_itself_through_an_either(self):
        self.check(41, None, [[SAY, either(NONE, go(0))]])
        self.check(41, None, [[SAY, either(go(1), go(0))], [SAY, NONE]])
        self.check(2, [0, 0], [[SAY, either(go(1), go(0))], [SAY]])

    def test_no_either_takes_a_spent(self):
        self.check(41, None, [[either(go(1), go(2)), SAY], [go(1)], []])
        self.check(41, None, [[either(go(1), go(2)), SAY], [either(go(3), go(2))], [], [SAY, go(3)]])
        self.check(4, [1], [[either(go(1), go(2)), SAY], [go(2), NONE], [("plus", 1)]])

    def test_forty_rows_deep_in_eithers(self):
        for depth in range(1, 39):
            inner = [[("plus", 1), SAY, either(go(place + 1), go(depth)), SAY] for place in range(depth - 1)]
            rows = inner + [[("plus", 1), SAY, NONE], [("plus", 1000)]]
            said = list(range(1, depth)) + [depth - 1 + 1000] * (depth - 1)
            self.check(depth + 1 if depth > 1 else 1, said if depth > 1 else Unanswered, rows)

    def test_a_none_behind_forty_rows_that_each_take_it(self):
        rows = [[either(go(place + 1), NONE)] for place in range(39)] + [[NONE]]
        self.check(40, Unanswered, rows)


class ByChance(RunTest):
    """Against the walk that is written in the tests."""

    def check_rows(self, chance, starts, rows):
        seen = []
        for word in [*starts, "nobody"]:
            wanted = walked(starts, rows, word)
            self.assertEqual(self.end(starts, rows, word), wanted)
            number = chance.choice([*NUMBERS, chance.randint(-9, 9), chance.randint(-10 ** 30, 10 ** 30)])
            self.assertEqual(self.end(starts, rows, word, number), walked(starts, rows, word, number))
            for count in range(41):
                wanted = walked(starts, rows, word, number, count)
                self.assertEqual(self.end(starts, rows, word, number, count), wanted, (starts, rows, number, count))
                seen.append(wanted if isinstance(wanted, type) else list)
        return seen

    def test_rows_that_lead_wherever(self):
        chance = random.Random(52)
        for leads in LEADS:
            seen = []
            for count in range(1, 61):
                starts = {word: chance.randrange(count) for word in chance.sample("wxyz", chance.randint(0, 3))}
                seen += self.check_rows(chance, starts, rows_by_chance(chance, count, leads))
            for kind in (list, Unanswered, Spent):
                self.assertGreater(seen.count(kind), 100, (leads, kind))

    def test_every_row_of_some_that_lead_much(self):
        chance = random.Random(53)
        for turn in range(20):
            rows = rows_by_chance(chance, 9, "the next rows alone", length=6)
            self.check_rows(chance, {"w" * (place + 1): place for place in range(9)}, rows)


class Apart(RunTest):
    """What is handed in is not changed, and what the asker changes behind a call changes nothing."""

    def rows(self):
        return {"w": 0, "x": 1}, [[SAY, either(go(1), go(2)), SAY], [("plus", 7), SAY, NONE], [("plus", 1)]]

    def test_asked_twice_with_the_answer_changed_in_between(self):
        starts, rows = self.rows()
        for way, change in itertools.product(WAYS, CHANGES):
            first = way(starts, rows, "w", 4)
            self.assertEqual(first, [4, 5])
            change(first)
            self.assertEqual(way(starts, rows, "w", 4), [4, 5])
            self.assertEqual((starts, rows), self.rows())

    def test_what_was_handed_in_changes_behind_the_call(self):
        for way in WAYS:
            starts, rows = self.rows()
            answer = way(starts, rows, "w", 4)
            rows[2].append(SAY)
            starts["w"] = 2
            self.assertEqual(answer, [4, 5])
            self.assertEqual(way(starts, rows, "w", 4), [5])
            rows.clear()
            starts.clear()
            self.refused(Unanswered, way, starts, rows, "w")

    def test_a_refusal_changes_nothing(self):
        starts, rows = self.rows()
        for way in WAYS:
            self.refused(Unanswered, way, starts, rows, "x")
            self.refused(Unanswered, way, starts, rows, "nobody")
            self.refused(Spent, way, starts, rows, "w", 0, 2)
            self.refused(BadNumber, way, starts, rows, "w", None)
            self.refused(BadCount, way, starts, rows, "w", 0, 41)
            self.assertEqual((starts, rows), self.rows())
            self.assertEqual(way(starts, rows, "w", 4), [4, 5])

    def test_a_count_begins_anew_with_each_question(self):
        for way in WAYS:
            self.assertEqual([way({"w": 0}, [[SAY]], "w", number, 1) for number in range(50)],
                             [[number] for number in range(50)])


class Refusals(RunTest):
    HANDED = ({"w": 0}, [[SAY]])

    def test_what_is_no_number(self):
        for number in NO_NUMBERS:
            self.refused_both_ways(BadNumber, *self.HANDED, "w", number)
            self.refused_both_ways(BadNumber, *self.HANDED, "w", number, 40)

    def test_what_is_no_count(self):
        for count in NO_COUNTS:
            self.refused_both_ways(BadCount, *self.HANDED, "w", 0, count)

    def test_both_bounds(self):
        for number, count in itertools.product((-10 ** 30, 10 ** 30, 0), (1, 40)):
            self.assertEqual(self.end(*self.HANDED, "w", number, count), [number])

    def test_a_word_that_is_no_key(self):
        for starts, count in itertools.product(({}, {"w": 0}, {"ww": 0, "x": 0}), range(41)):
            for word in {"w", "nobody", "", "W", "w " * 21} - set(starts):
                self.refused_both_ways(Unanswered, starts, [[SAY]], word, 0, count)
        self.refused_both_ways(Unanswered, {}, [], "w")

    def test_a_key_with_the_count_nought(self):
        for row in ([], [SAY], [NONE], [go(0)], [either(NONE, NONE)]):
            self.refused_both_ways(Spent, {"w": 0}, [row], "w", 0, 0)

    def test_two_reasons_give_the_first(self):
        for word in ("w", "nobody"):
            for number, count in itertools.product([None, True, 10 ** 31, "1", []], [0, 1, -1, 41, True, "1", None]):
                self.refused_both_ways(BadNumber, *self.HANDED, word, number, count)
            for count in (-1, 41, True, False, "1", None, []):
                self.refused_both_ways(BadCount, *self.HANDED, word, 1, count)
        self.refused_both_ways(Unanswered, *self.HANDED, "nobody", 1, 0)
        self.refused_both_ways(Spent, *self.HANDED, "w", 1, 0)

    def test_every_refusal_is_a_book_error(self):
        for way, handed in itertools.product(WAYS, (("w", None), ("w", 0, 41), ("nobody",), ("w", 0, 0))):
            with self.assertRaises(BookError):
                way(*self.HANDED, *handed)


if __name__ == "__main__":
    unittest.main()
