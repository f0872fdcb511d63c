import itertools
import random
import unittest

from elderline.ahead import told_ahead
from elderline.errors import Spent, Unanswered
from elderline.running import run
from elderline.weaving import woven_run
from helping import LEADS, NONE, SAY, BookTest, either, ending, go, rows_by_chance

NEVER = ("never", 0)


def answers(count):
    return ("answers", count)


def unanswered(count):
    return ("unanswered", count)


def told_by_rounds(rows):
    """Point 17 in rounds: in each the ends that follow from those told so far; what no round tells is never."""
    ends = {}
    more = {0: NEVER}
    while more:
        told = {place: end_by_others(row, ends) for place, row in enumerate(rows) if place not in ends}
        more = {place: end for place, end in told.items() if end is not None}
        ends.update(more)
    return [ends.get(place, NEVER) for place in range(len(rows))]


def end_by_others(row, ends):
    """The end of a row, or None where one that it needs is not told."""
    count, last = 1, "answers"
    for step in row:
        ways = {"go": [step], "none": [step], "either": step[1:]}.get(step[0], [])
        last = "answers"
        for way in ways:
            end = unanswered(0) if way == NONE else ends.get(way[1])
            if end is None:
                return None
            last, count = end[0], count + end[1]
            if last == "answers":
                break
        if last == "unanswered":
            break
    return last, count


class AheadTest(BookTest):
    def told(self, rows):
        """What is told ahead, in its form, of rows that stay as they are."""
        before = [list(row) for row in rows]
        told = told_ahead(rows)
        self.assertEqual(rows, before)
        self.assertEqual((type(told), len(told)), (list, len(rows)))
        for end in told:
            self.assertEqual((type(end), len(end), type(end[0]), type(end[1])), (tuple, 2, str, int))
        return told

    def check(self, wanted, rows):
        self.assertEqual(self.told(rows), wanted)
        self.check_runs(rows)

    def check_runs(self, rows, numbers=(0,)):
        """Each row ends as it is told with the told count or more, and is Spent with less."""
        told = self.told(rows)
        for place, number, count in itertools.product(range(len(rows)), numbers, range(41)):
            end, needed = told[place]
            wanted = Spent if end == "never" or count < needed else {"answers": list, "unanswered": Unanswered}[end]
            for way in (run, woven_run):
                found = ending(way, {"w": place}, rows, "w", number, count)
                self.assertEqual(found if isinstance(found, type) else list, wanted, (rows, place, number, count))
        return told


class Ends(AheadTest):
    def test_no_rows(self):
        self.check([], [])

    def test_rows_that_lead_nowhere(self):
        self.check([answers(1)], [[]])
        self.check([answers(1)] * 2, [[SAY], [("put", 1), ("part", 3), ("up", 64), SAY]])

    def test_a_none(self):
        self.check([unanswered(1)], [[NONE]])
        self.check([unanswered(1)], [[SAY, NONE, SAY]])
        self.check([unanswered(2), answers(1), unanswered(1)], [[go(1), NONE, go(1)], [SAY], [NONE, go(1), go(2)]])

    def test_a_go(self):
        self.check([answers(4), answers(2), answers(1)], [[go(1), go(2)], [go(2)], []])
        self.check([answers(1), answers(2), answers(4)], [[], [go(0)], [go(0), SAY, go(1)]])
        self.check([unanswered(4), unanswered(2), unanswered(1), answers(1)],
                   [[go(3), go(1), go(3)], [SAY, go(2), go(3)], [NONE], []])

    def test_an_either(self):
        rows = [[either(go(1), go(2))], [], [NONE], [either(go(2), go(1))], [either(go(2), go(2))]]
        self.check([answers(2), answers(1), unanswered(1), answers(3), unanswered(3)], rows)

    def test_an_either_of_nones(self):
        rows = [[], [NONE], [either(NONE, NONE)], [either(NONE, go(0))], [either(go(0), NONE)], [either(go(1), NONE)],
                [either(NONE, go(1)), go(0)]]
        wanted = [answers(1), unanswered(1), unanswered(1), answers(2), answers(2), unanswered(2), unanswered(2)]
        self.check(wanted, rows)

    def test_eithers_one_behind_the_other(self):
        rows = [[either(go(1), go(2)), either(go(2), NONE), either(go(1), NONE), go(2)], [go(2), go(2), NONE], []]
        self.check([unanswered(9), unanswered(3), answers(1)], rows)

    def test_an_either_within_an_either(self):
        rows = [[either(go(1), go(2))], [go(3), either(go(4), go(4))], [either(go(4), go(3)), go(3)], [], [NONE, go(0)]]
        self.check([answers(9), unanswered(4), answers(4), answers(1), unanswered(1)], rows)


class Rings(AheadTest):
    def test_a_row_that_leads_to_itself(self):
        self.check([NEVER], [[go(0)]])
        self.check([NEVER], [[SAY, go(0), NONE]])
        self.check([NEVER], [[either(go(0), NONE)]])
        self.check([NEVER], [[either(NONE, go(0))]])

    def test_a_ring_of_rows(self):
        for length in (2, 3, 10, 60):
            self.check([NEVER] * length, [[SAY, go((place + 1) % length)] for place in range(length)])
            self.check([NEVER] * length, [[SAY, go((place - 1) % length)] for place in range(length)])

    def test_rows_that_lead_into_a_ring(self):
        self.check([NEVER, NEVER, NEVER, answers(1)], [[go(3), go(1)], [go(2)], [go(3), go(1)], []])
        self.check([NEVER, NEVER, answers(1), unanswered(2)],
                   [[go(0)], [go(2), either(go(0), go(2))], [], [go(2), NONE]])

    def test_a_ring_cut_by_a_none(self):
        self.check([unanswered(1)], [[NONE, go(0)]])
        self.check([unanswered(2), unanswered(1)], [[go(1)], [NONE, go(0)]])
        self.check([unanswered(1), unanswered(2), unanswered(3)], [[NONE, go(1)], [go(0), go(2)], [go(1), go(0)]])
        self.check([unanswered(2), unanswered(3), answers(1)], [[go(2), NONE, go(1)], [go(0)], []])

    def test_a_ring_cut_by_an_either(self):
        self.check([answers(2), answers(3), answers(1)], [[either(go(2), go(1))], [go(0)], []])
        self.check([answers(3), unanswered(1), answers(1)], [[either(go(1), go(2))], [NONE, go(0)], []])
        self.check([answers(4), unanswered(2), unanswered(1), answers(1)],
                   [[either(go(1), go(3))], [go(2), go(0)], [either(NONE, NONE), go(1)], []])

    def test_a_ring_that_an_either_does_not_cut(self):
        self.check([NEVER, NEVER, unanswered(1)], [[either(go(2), go(1))], [go(0)], [NONE]])
        self.check([NEVER, NEVER, answers(1)], [[either(go(1), go(2))], [go(0)], []])
        self.check([NEVER, answers(1)], [[either(NONE, go(0)), go(1)], []])

    def test_a_none_behind_a_ring_is_not_come_to(self):
        self.check([NEVER, NEVER], [[go(1), NONE], [go(0), NONE]])
        self.check([NEVER, unanswered(1)], [[go(0), go(1)], [NONE]])

    def test_a_row_told_by_way_of_another_ring(self):
        rows = [[go(1)], [either(go(2), go(3))], [go(4), NONE], [go(4)], [SAY]]
        self.check([answers(6), answers(5), unanswered(2), answers(2), answers(1)], rows)
        rows[4] = [go(2)]
        self.check([NEVER] * 5, rows)

    def test_the_same_whatever_the_places(self):
        rows = [[go(1), either(go(3), go(2))], [either(go(4), NONE)], [go(5), SAY], [go(2), NONE, go(0)], [],
                [SAY, either(NONE, go(4))], [go(6)], [go(3), go(7)]]
        wanted = self.check_runs(rows)
        chance = random.Random(61)
        for turn in range(100):
            places = chance.sample(range(8), 8)

            def moved(step):
                return go(places[step[1]]) if step[0] == "go" else tuple(
                    moved(part) if isinstance(part, tuple) else part for part in step)

            told = self.told([[moved(step) for step in rows[places.index(place)]] for place in range(8)])
            self.assertEqual([told[places[place]] for place in range(8)], wanted)


class FarCounts(AheadTest):
    def test_the_next_row_is_gone_to_twice(self):
        for length in (2, 5, 6, 40, 60, 61, 100):
            rows = [[go(place + 1), SAY, go(place + 1)] for place in range(length - 1)] + [[]]
            self.assertEqual(self.told(rows), [answers(2 ** (length - place) - 1) for place in range(length)])
            back = [[]] + [[go(place), go(place)] for place in range(length - 1)]
            self.assertEqual(self.told(back), [answers(2 ** (place + 1) - 1) for place in range(length)])

    def test_sixty_rows_gone_to_thirty_times_each(self):
        rows = [[go(place + 1)] * 30 for place in range(59)] + [[SAY]]
        count = 1
        for place in range(59):
            count = 1 + 30 * count
        self.assertEqual(self.told(rows)[0], answers(count))
        self.assertGreater(count, 2 ** 280)

    def test_the_next_row_is_tried_twice(self):
        rows = [[either(go(place + 1), go(place + 1))] for place in range(60)] + [[NONE]]
        self.assertEqual(self.told(rows), [unanswered(2 ** (61 - place) - 1) for place in range(61)])
        rows[60] = []
        self.assertEqual(self.told(rows), [answers(61 - place) for place in range(61)])
        rows[60] = [go(0)]
        self.assertEqual(self.told(rows), [NEVER] * 61)

    def test_a_far_count_ahead_of_a_none_or_a_ring(self):
        rows = [[go(place + 1), go(place + 1)] for place in range(60)] + [[]]
        far = 2 ** 61 - 1
        told = self.told(rows + [[go(0), NONE], [go(0), go(62)], [either(go(61), go(0))]])
        self.assertEqual(told[60:], [answers(1), unanswered(far + 1), NEVER, answers(2 * far + 2)])

    def test_small_ones_against_the_runs(self):
        for length in (1, 2, 3, 4, 5, 6):
            self.check_runs([[go(place + 1), go(place + 1)] for place in range(length - 1)] + [[]])
            self.check_runs([[either(go(place + 1), go(place + 1))] for place in range(length - 1)] + [[NONE]])

    def test_long_ways(self):
        for length in (300, 3000):
            rows = [[go(place + 1)] for place in range(length - 1)] + [[]]
            self.assertEqual(self.told(rows), [answers(length - place) for place in range(length)])
            rows[-1] = [NONE]
            self.assertEqual(self.told(rows)[0], unanswered(length))
            rows[-1] = [go(0)]
            self.assertEqual(self.told(rows), [NEVER] * length)
            rows[-1] = [go(length // 2)]
            self.assertEqual(self.told(rows), [NEVER] * length)
            back = [[SAY]] + [[go(place), NONE] for place in range(length - 1)]
            self.assertEqual(self.told(back), [answers(1)] + [unanswered(place + 1) for place in range(1, length)])


class ByChance(AheadTest):
    def test_by_rounds_by_hand(self):
        rows = [[go(1), either(go(2), go(1))], [], [go(1), NONE], [go(3)], [either(NONE, go(3))]]
        self.assertEqual(told_by_rounds(rows), [answers(5), answers(1), unanswered(2), NEVER, NEVER])

    def test_rows_that_lead_wherever(self):
        chance = random.Random(62)
        for leads in LEADS:
            seen = []
            for turn, count in itertools.product(range(6), range(61)):
                rows = rows_by_chance(chance, count, leads)
                told = self.told(rows)
                self.assertEqual(told, told_by_rounds(rows), rows)
                seen += [end[0] for end in told]
            rings = leads in ("earlier rows and itself", "itself alone", "any row")
            for end in ("answers", "unanswered", "never") if rings else ("answers", "unanswered"):
                self.assertGreater(seen.count(end), 500, (leads, end))

    def test_against_the_runs(self):
        chance = random.Random(63)
        for leads, count in itertools.product(LEADS, (1, 2, 3, 5, 8, 13, 30, 60)):
            self.check_runs(rows_by_chance(chance, count, leads), [chance.randint(-9, 9)])

    def test_against_the_runs_with_several_numbers(self):
        chance = random.Random(64)
        for turn in range(12):
            self.check_runs(rows_by_chance(chance, 6, "any row", length=6), (0, -1, 10 ** 30, -10 ** 30))


class Apart(AheadTest):
    def test_told_twice_with_the_answer_cleared_in_between(self):
        rows = [[go(1), go(1)], [SAY], [go(2)]]
        for turn in range(3):
            told = self.told(rows)
            self.assertEqual(told, [answers(3), answers(1), NEVER])
            told.clear()

    def test_rows_that_change_behind_the_call(self):
        rows = [[go(1), go(1)], [SAY]]
        told = self.told(rows)
        rows[1].append(NONE)
        self.assertEqual(told, [answers(3), answers(1)])
        self.assertEqual(self.told(rows), [unanswered(2), unanswered(1)])

    def test_arguments_by_their_names(self):
        self.assertEqual(told_ahead(rows=[[]]), [answers(1)])


if __name__ == "__main__":
    unittest.main()
