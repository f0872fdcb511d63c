import itertools
import random
import unittest

from elderline.asking import answered
from elderline.book import Book
from elderline.errors import BadCount, BadNumber, BookError, Spent, Unanswered, Unfounded
from helping import (
    CHANGES, NO_COUNTS, NO_NUMBERS, NUMBERS, WORK, BookTest, built, chain, changing_books, ending, grown_book, letters,
    plain_step, retold, state, taught_by_chance,
)

SAY = ("say",)


def knowing(foundings, **words):
    """A book, and what its houses know: house_word=[steps]."""
    book = built(*foundings)
    for key, body in words.items():
        book.teach(*key.split("_"), body)
    return book


def one_word(*steps):
    return knowing(["a"], a_w=list(steps))


def ends(book, name, word, number=0):
    """How a question ends with each count."""
    return [ending(answered, book, name, word, number, count) for count in range(41)]


class Answers(BookTest):
    def test_nothing_is_said(self):
        self.assertEqual(answered(one_word(), "a", "w"), [])
        self.assertEqual(answered(one_word(("put", 5)), "a", "w", 7), [])

    def test_what_is_said_comes_in_order(self):
        body = [SAY, ("plus", 2), SAY, ("times", 3), SAY, SAY, ("put", 0), SAY]
        self.assertEqual(answered(one_word(*body), "a", "w", 5), [5, 7, 21, 21, 0])

    def test_the_parts_of_a_number_are_said(self):
        body = [("part", 10), ("part", 10), ("part", 10), SAY]
        self.assertEqual(answered(one_word(*body), "a", "w", 4321), [1, 2, 3, 4])
        self.assertEqual(answered(one_word(*body), "a", "w", -4321), [9, 7, 6, -5])
        self.assertEqual(answered(one_word(("part", -10), ("part", -10), SAY), "a", "w", 4321), [-9, -3, 43])

    def test_division_is_rounded_down(self):
        self.assertEqual(answered(one_word(("over", 2), SAY, ("over", -2), SAY), "a", "w", -7), [-4, 2])
        self.assertEqual(answered(one_word(("over", -2), SAY, ("over", 2), SAY), "a", "w", 7), [-4, -2])
        self.assertEqual(answered(one_word(("down", 1), SAY, ("down", 64), SAY), "a", "w", -7), [-4, -1])

    def test_bits_below_nought(self):
        body = [("both", 6), SAY, ("any", -8), SAY, ("odd", -1), SAY]
        self.assertEqual(answered(one_word(*body), "a", "w", -3), [4, -4, 3])

    def test_bits_are_moved(self):
        body = [("up", 64), SAY, ("down", 63), SAY, ("up", 0), SAY, ("down", 0), SAY]
        self.assertEqual(answered(one_word(*body), "a", "w", -3), [-55340232221128654848, -6, -6, -6])

    def test_a_number_grows_beyond_the_bounds(self):
        grown = answered(one_word(*[("times", -10 ** 30)] * 29, SAY), "a", "w", 10 ** 30)
        self.assertEqual(grown, [-10 ** 900])
        moved = answered(one_word(*[("up", 64)] * 29, SAY), "a", "w", -1)
        self.assertEqual(moved, [-2 ** (64 * 29)])
        back = answered(one_word(("times", 10 ** 30), ("plus", 10 ** 30), ("over", 10 ** 30), SAY), "a", "w", 10 ** 30)
        self.assertEqual(back, [10 ** 30 + 1])

    def test_the_number_left_out_is_nought(self):
        self.assertEqual(answered(one_word(SAY, ("plus", 3), SAY), "a", "w"), [0, 3])

    def test_the_count_left_out_is_forty(self):
        for length in (39, 40, 41, 42, 60):
            book, names = chain(length)
            for name in names:
                book.teach(name, "w", [("plus", 1), ("onwards",)] if name != names[0] else [("plus", 1), SAY])
            self.assertEqual(ending(answered, book, names[-1], "w"), [length] if length <= 40 else Spent)
            self.assertEqual(ending(answered, book, names[-1], "w", 5), [length + 5] if length <= 40 else Spent)

    def test_arguments_by_their_names(self):
        book = one_word(SAY)
        self.assertEqual(answered(book=book, name="a", word="w", number=3, count=1), [3])
        self.assertEqual(answered(book, "a", "w", count=1), [0])
        self.refused(Spent, lambda: answered(book, "a", "w", count=0))

    def test_answers_are_lists_of_whole_numbers(self):
        said = answered(one_word(SAY, ("part", 2), ("both", 1), SAY), "a", "w", 5)
        self.assertEqual((type(said), [type(number) for number in said]), (list, [int, int, int]))

    def test_bodies_of_every_length(self):
        for length in range(31):
            self.assertEqual(answered(one_word(*[SAY] * length), "a", "w", 9), [9] * length)
            self.assertEqual(answered(one_word(*[("part", 3)] * length), "a", "w", 0), [0] * length)

    def test_each_sort_with_each_amount(self):
        amounts = [*range(-9, 10), -10 ** 30, 1 - 10 ** 30, 10 ** 30 - 1, 10 ** 30]
        for sort, amount in itertools.product(WORK, amounts):
            if sort in ("up", "down"):
                amount = {-9: 0, 10 ** 30: 64}.get(amount, amount % 64)
            step = (sort, amount if amount or sort not in ("over", "part") else 1)
            book = one_word(SAY, step, SAY)
            for number in NUMBERS:
                self.assertEqual(answered(book, "a", "w", number), retold(book, "a", "w", number), (step, number))

    def test_bodies_by_chance(self):
        chance = random.Random(31)
        for turn in range(400):
            book = one_word(*[plain_step(chance) for step in range(turn % 31)])
            for number in (chance.choice(NUMBERS), chance.randint(-10 ** 30, 10 ** 30), chance.randint(-9, 9)):
                self.assertEqual(answered(book, "a", "w", number), retold(book, "a", "w", number))


class Apart(BookTest):
    """What the asker changes behind a call changes nothing in a book, nor does a question."""

    def test_asked_twice_with_the_answer_changed_in_between(self):
        book = knowing(["a", "b a"], a_w=[SAY, ("plus", 1), SAY], b_w=[("try", "x", "y"), ("onwards",)], b_y=[SAY])
        before = state(book)
        for change in CHANGES:
            first = answered(book, "b", "w", 4)
            self.assertEqual(first, [4, 4, 5])
            change(first)
            self.assertEqual(answered(book, "b", "w", 4), [4, 4, 5])
            self.assertEqual(state(book), before)

    def test_a_question_that_is_refused_changes_nothing(self):
        book = knowing(["a"], a_w=[SAY, ("ask", "w")], a_x=[SAY, ("onwards",)], a_y=[SAY])
        before = state(book)
        for turn in range(2):
            self.refused(Spent, answered, book, "a", "w")
            self.refused(Unanswered, answered, book, "a", "x")
            self.refused(Unanswered, answered, book, "a", "nobody")
            self.refused(BadNumber, answered, book, "a", "y", None)
            self.refused(BadCount, answered, book, "a", "y", 0, 41)
            self.refused(Unfounded, answered, book, "b", "y")
            self.assertEqual(state(book), before)
            self.assertEqual(answered(book, "a", "y", 3), [3])

    def test_a_count_begins_anew_with_each_question(self):
        book = one_word(SAY)
        self.assertEqual([answered(book, "a", "w", number, 1) for number in range(50)], [[n] for n in range(50)])


class Orders(BookTest):
    def test_the_first_house_that_knows_the_word(self):
        book = knowing(["a", "b a", "c b"], a_w=[("put", 1), SAY], b_w=[("put", 2), SAY], a_x=[("put", 3), SAY])
        self.assertEqual([answered(book, name, "w") for name in "abc"], [[1], [2], [2]])
        self.assertEqual([answered(book, name, "x") for name in "abc"], [[3], [3], [3]])

    def test_a_forebear_is_asked_for_itself(self):
        book = knowing(["a", "b a"], b_w=[SAY])
        self.refused(Unanswered, answered, book, "a", "w")
        self.assertEqual(answered(book, "b", "w"), [0])

    def test_what_nobody_knows(self):
        book = knowing(["a", "b a", "c"], c_w=[SAY])
        for word in ("w", "x", "", "W", "w ", "w" * 21, "a"):
            self.refused(Unanswered, answered, book, "b", word)
        self.refused(Unanswered, answered, book, "c", "x")

    def test_handed_on_from_each_house_to_the_next(self):
        book = built("a", "b a", "c a", "d b c")
        for place, name in enumerate("dbca"):
            book.teach(name, "w", [("plus", 10 ** place), SAY] + [("onwards",)] * (name != "a"))
        self.assertEqual(answered(book, "d", "w"), [1, 11, 111, 1111])
        self.assertEqual(answered(book, "b", "w"), [10, 1010])
        self.assertEqual(answered(book, "c", "w"), [100, 1100])

    def test_handed_on_past_houses_that_do_not_know_the_word(self):
        book = knowing(
            ["a", "b a", "c b", "d c", "e d"],
            d_w=[("plus", 1), ("onwards",), SAY], b_w=[("times", 5), ("onwards",), SAY], a_w=[("plus", 7)], c_x=[SAY],
        )
        self.assertEqual(answered(book, "e", "w", 1), [17, 17])

    def test_handed_on_from_the_last_one(self):
        book = knowing(["a", "b a"], a_w=[SAY, ("onwards",)], b_w=[SAY, ("onwards",)], b_x=[("onwards",), SAY])
        self.refused(Unanswered, answered, book, "a", "w")
        self.refused(Unanswered, answered, book, "b", "w")
        self.refused(Unanswered, answered, book, "b", "x")

    def test_handed_on_twice_from_one_body(self):
        book = knowing(["a", "b a", "c b"], a_w=[("plus", 1), SAY], b_w=[("onwards",), ("onwards",)],
                       c_w=[("onwards",), ("put", 50), ("onwards",)])
        self.assertEqual(answered(book, "c", "w"), [1, 2, 51, 52])

    def test_what_is_in_hand_behind_goes_on(self):
        book = knowing(["a", "b a"], a_w=[("times", 3)], a_x=[("plus", 1)],
                       b_w=[("plus", 1), ("onwards",), SAY, ("ask", "x"), SAY, ("try", "x", "y"), SAY])
        self.assertEqual(answered(book, "b", "w", 4), [15, 16, 17])

    def test_asked_anew_of_the_house_that_was_asked_at_the_first(self):
        book = knowing(["a", "b a", "c b"], a_w=[("ask", "x")], a_x=[("put", 1), SAY],
                       b_x=[("put", 2), SAY, ("onwards",)], c_x=[("put", 3), SAY, ("onwards",)])
        self.assertEqual([answered(book, name, "w") for name in "abc"], [[1], [2, 1], [3, 2, 1]])

    def test_asked_anew_out_of_a_body_that_was_handed_on(self):
        book = knowing(["a", "b a"], b_w=[SAY, ("plus", 1), ("onwards",)], a_w=[("ask", "x")], b_x=[("times", 2), SAY])
        self.assertEqual(answered(book, "b", "w", 5), [5, 12])
        self.refused(Unanswered, answered, book, "a", "w")

    def test_asked_anew_the_word_that_is_asked(self):
        book = knowing(["a", "b a"], a_w=[("ask", "w")], b_w=[("onwards",)], b_x=[SAY, ("ask", "x")])
        for name, word in (("a", "w"), ("b", "w"), ("b", "x")):
            self.assertEqual(ends(book, name, word), [Spent] * 41)

    def test_asked_for_what_nobody_knows(self):
        book = knowing(["a"], a_w=[SAY, ("ask", "x"), SAY])
        self.refused(Unanswered, answered, book, "a", "w")

    def test_words_taught_anew_and_forgotten(self):
        book = knowing(["a", "b a"], a_w=[("put", 1), SAY], b_w=[("onwards",), ("put", 2), SAY])
        self.assertEqual(answered(book, "b", "w"), [1, 2])
        book.teach("a", "w", [("put", 3), SAY])
        self.assertEqual(answered(book, "b", "w"), [3, 2])
        book.forget("a", "w")
        self.refused(Unanswered, answered, book, "b", "w")
        book.teach("b", "w", [])
        self.assertEqual(answered(book, "b", "w"), [])
        book.forget("b", "w")
        self.refused(Unanswered, answered, book, "b", "w", 0, 0)
        book.teach("a", "w", [SAY])
        self.assertEqual(answered(book, "b", "w", 9), [9])

    def test_a_house_founded_later_changes_nothing_for_its_elders(self):
        book = knowing(["a", "b a"], a_w=[SAY], b_x=[("ask", "w")])
        book.found("c", ["b"])
        book.teach("c", "w", [])
        self.assertEqual([ending(answered, book, name, "x") for name in "abc"], [Unanswered, [0], []])


class Tries(BookTest):
    def test_the_word_answers(self):
        book = knowing(["a"], a_w=[("try", "x", "y"), SAY], a_x=[("plus", 1), SAY], a_y=[("put", 50), SAY])
        self.assertEqual(answered(book, "a", "w", 3), [4, 4])

    def test_unanswered_straight_away(self):
        book = knowing(["a"], a_w=[SAY, ("plus", 2), ("try", "x", "y"), SAY], a_y=[SAY, ("plus", 3)])
        self.assertEqual(answered(book, "a", "w", 1), [1, 3, 6])

    def test_unanswered_at_a_depth(self):
        book = knowing(
            ["a", "b a", "c b"], c_w=[SAY, ("try", "x", "y"), SAY], c_y=[("plus", 1)],
            c_x=[SAY, ("plus", 7), ("onwards",)], b_x=[SAY, ("part", 3), ("ask", "z")],
            a_z=[SAY, ("put", 8), ("ask", "v"), SAY], c_v=[SAY, ("onwards",), SAY],
        )
        self.assertEqual(answered(book, "c", "w", 20), [20, 21])

    def test_what_was_said_ahead_of_the_try_stays(self):
        book = knowing(["a"], a_w=[SAY, ("ask", "u"), SAY], a_u=[("plus", 1), SAY, ("try", "x", "y"), SAY],
                       a_x=[("times", 100), SAY, SAY, ("ask", "nobody")], a_y=[SAY, ("plus", 1)])
        self.assertEqual(answered(book, "a", "w"), [0, 1, 1, 2, 2])

    def test_the_other_word_is_asked_anew(self):
        book = knowing(["a", "b a"], a_w=[("try", "x", "w")], b_w=[("put", 4), SAY, ("onwards",)])
        self.assertEqual(ends(book, "b", "w"), [Spent] * 41)
        book.teach("a", "w", [("try", "x", "y")])
        book.teach("a", "y", [("put", 1), SAY])
        self.assertEqual(answered(book, "b", "w"), [4, 1])
        book.teach("b", "y", [("put", 2), SAY, ("onwards",)])
        self.assertEqual(answered(book, "b", "w"), [4, 2, 1])

    def test_an_unanswered_of_the_other_word(self):
        book = knowing(["a"], a_w=[SAY, ("try", "x", "y"), SAY], a_y=[SAY, ("onwards",)])
        self.refused(Unanswered, answered, book, "a", "w")
        book.teach("a", "w", [("try", "x", "x")])
        self.refused(Unanswered, answered, book, "a", "w")

    def test_an_unanswered_of_the_other_word_goes_on_to_a_try_further_out(self):
        book = knowing(["a"], a_w=[SAY, ("plus", 1), ("try", "u", "v"), SAY],
                       a_u=[("plus", 10), SAY, ("try", "x", "y"), SAY], a_y=[("plus", 100), SAY, ("ask", "nobody")],
                       a_v=[SAY, ("plus", 5)])
        self.assertEqual(answered(book, "a", "w"), [0, 1, 6])

    def test_a_try_within_the_word_of_a_try(self):
        book = knowing(["a"], a_w=[("try", "u", "v"), SAY], a_u=[("plus", 1), SAY, ("try", "x", "y"), ("plus", 1), SAY],
                       a_x=[SAY, ("put", 77), ("ask", "nobody")], a_y=[("times", 10), SAY], a_v=[("put", 55)])
        self.assertEqual(answered(book, "a", "w", 2), [3, 30, 31, 31])

    def test_a_try_within_the_other_word_of_a_try(self):
        book = knowing(["a"], a_w=[("plus", 1), ("try", "x", "u"), SAY], a_x=[("put", 9), SAY, ("onwards",)],
                       a_u=[SAY, ("try", "x", "y"), SAY], a_y=[SAY, ("plus", 1)])
        self.assertEqual(answered(book, "a", "w", 1), [2, 2, 3, 3])

    def test_tries_one_behind_the_other(self):
        book = knowing(["a"], a_w=[("try", "x", "y")] * 5, a_x=[SAY, ("ask", "nobody")], a_y=[("plus", 1), SAY])
        self.assertEqual(answered(book, "a", "w"), [1, 2, 3, 4, 5])

    def test_a_try_whose_word_ended_well_takes_nothing_back_later(self):
        book = knowing(["a"], a_w=[("try", "x", "y"), ("ask", "nobody")], a_x=[SAY], a_y=[("put", 5), SAY])
        self.refused(Unanswered, answered, book, "a", "w")
        book.teach("a", "v", [SAY, ("try", "w", "y"), SAY])
        self.assertEqual(answered(book, "a", "v"), [0, 5, 5])

    def test_an_unanswered_handing_on_within_a_try(self):
        book = knowing(["a", "b a"], b_w=[("try", "x", "y"), SAY], b_x=[("plus", 1), SAY, ("onwards",)],
                       a_x=[("plus", 1), SAY, ("onwards",)], a_y=[("plus", 5)])
        self.assertEqual(answered(book, "b", "w"), [5])

    def test_no_try_takes_a_spent(self):
        book = knowing(["a"], a_w=[("try", "x", "y"), SAY], a_x=[("ask", "x")], a_y=[])
        self.assertEqual(ends(book, "a", "w"), [Spent] * 41)
        book.teach("a", "v", [("try", "w", "y")])
        self.assertEqual(ends(book, "a", "v"), [Spent] * 41)


class Counts(BookTest):
    def check(self, book, name, word, needed, end):
        """Spent with less than the count needed, and this end with that count or more."""
        self.assertEqual(ends(book, name, word), [Spent] * needed + [end] * (41 - needed))

    def test_one_body(self):
        self.check(one_word(), "a", "w", 1, [])
        self.check(one_word(SAY, SAY), "a", "w", 1, [0, 0])

    def test_what_nobody_knows_counts_nothing(self):
        book = knowing(["a"], a_w=[("ask", "nobody")], a_x=[("onwards",)], a_y=[("try", "nobody", "nobody")],
                       a_z=[("try", "nobody", "v"), SAY], a_v=[])
        self.check(book, "a", "nobody", 0, Unanswered)
        self.check(book, "a", "w", 1, Unanswered)
        self.check(book, "a", "x", 1, Unanswered)
        self.check(book, "a", "y", 1, Unanswered)
        self.check(book, "a", "z", 2, [0])

    def test_bodies_that_are_asked(self):
        book = knowing(["a", "b a"], b_w=[("ask", "x"), ("ask", "x"), SAY], b_x=[("plus", 1), ("onwards",)],
                       a_x=[("ask", "y"), ("ask", "y")], a_y=[("times", 2)])
        self.check(book, "b", "w", 9, [20])

    def test_tries_that_were_taken_back_count_too(self):
        book = knowing(["a", "b a"], b_w=[("try", "x", "y"), SAY], b_x=[("ask", "y"), ("onwards",)],
                       a_x=[("ask", "y"), ("ask", "y"), ("ask", "nobody")], b_y=[("plus", 1)])
        self.check(book, "b", "w", 7, [1])

    def test_an_unanswered_comes_only_where_it_is_reached(self):
        book = knowing(["a"], a_w=[("ask", "x"), ("ask", "x"), ("ask", "nobody"), ("ask", "x")], a_x=[])
        self.check(book, "a", "w", 3, Unanswered)

    def test_a_try_that_is_spent_before_it_is_unanswered(self):
        book = knowing(["a"], a_w=[("try", "x", "y"), SAY], a_x=[("ask", "y"), ("ask", "nobody")], a_y=[("plus", 1)])
        self.check(book, "a", "w", 4, [1])

    def test_handed_on_along_a_chain(self):
        for length in (1, 2, 39, 40, 41, 45, 60):
            book, names = chain(length)
            for name in names:
                book.teach(name, "w", [("plus", 1), SAY] + [("onwards",)] * (name != names[0]))
                book.teach(name, "x", [SAY, ("onwards",)])
            for place, name in enumerate(names):
                needed = min(41, place + 1)
                self.check(book, name, "w", needed, list(range(1, place + 2)))
                self.check(book, name, "x", needed, Unanswered)

    def test_the_last_one_of_a_long_order(self):
        book, names = chain(300)
        book.teach(names[0], "w", [SAY])
        self.check(book, names[-1], "w", 1, [0])
        book.teach(names[-1], "w", [("plus", 4), ("onwards",)])
        self.check(book, names[-1], "w", 2, [4])

    def test_forty_bodies_deep_in_tries(self):
        book = Book()
        book.found("a")
        words = letters(45, first="w")
        for word, further in zip(words, words[1:]):
            book.teach("a", word, [("plus", 1), SAY, ("try", further, "y"), SAY])
        book.teach("a", "y", [("plus", 1000)])
        for needed in range(3, 40):
            depth = needed - 1
            book.teach("a", words[depth - 1], [("plus", 1), SAY, ("ask", "nobody")])
            said = list(range(1, depth)) + [depth - 1 + 1000] * (depth - 1)
            self.check(book, "a", words[0], needed, said)
            book.teach("a", words[depth - 1], [("plus", 1), SAY, ("try", words[depth], "y"), SAY])

    def test_questions_by_chance(self):
        chance = random.Random(32)
        seen = {list: 0, Unanswered: 0, Spent: 0}
        for turn in range(60):
            book = grown_book(chance, letters(7))
            words = letters(8, first="w")
            taught_by_chance(chance, book, words)
            before = state(book)
            for name, word in itertools.product(book.houses(), words + ["nobody"]):
                number = chance.choice(NUMBERS)
                wanted = [retold(book, name, word, number, count) for count in range(41)]
                self.assertEqual(ends(book, name, word, number), wanted)
                seen[wanted[-1] if isinstance(wanted[-1], type) else list] += 1
            self.assertEqual(state(book), before)
        self.assertGreater(min(seen.values()), 50)

    def test_words_by_chance_taught_anew_and_forgotten(self):
        chance = random.Random(33)
        for book, words in changing_books(chance, 40):
            for name, word in itertools.product(book.houses(), words):
                count = chance.randint(0, 40)
                wanted = retold(book, name, word, 5, count)
                self.assertEqual(ending(answered, book, name, word, 5, count), wanted)


class Refusals(BookTest):
    def setUp(self):
        self.book = knowing(["a"], a_w=[SAY])
        self.before = state(self.book)

    def refuses(self, refusal, *handed):
        with self.subTest(handed=[part if type(part) is str else type(part) for part in handed]):
            self.refused(refusal, answered, self.book, *handed)
            self.assertEqual(state(self.book), self.before)

    def test_a_house_that_is_none(self):
        for name in ("b", "", "A", "a ", "w", "a" * 21):
            self.refuses(Unfounded, name, "w")
            self.refuses(Unfounded, name, "nobody", 1, 0)

    def test_what_is_no_number(self):
        for number in NO_NUMBERS:
            self.refuses(BadNumber, "a", "w", number)
            self.refuses(BadNumber, "a", "w", number, 40)

    def test_what_is_no_count(self):
        for count in NO_COUNTS:
            self.refuses(BadCount, "a", "w", 0, count)

    def test_both_bounds(self):
        for number, count in itertools.product((-10 ** 30, 10 ** 30, 0), (1, 40)):
            self.assertEqual(answered(self.book, "a", "w", number, count), [number])

    def test_two_reasons_give_the_first(self):
        for number, count in itertools.product([0, None, True, 10 ** 31], [0, -1, 41, True, "1"]):
            self.refuses(Unfounded, "b", "w", number, count)
            self.refuses(Unfounded, "b", "nobody", number, count)
        for number, count in itertools.product([None, True, 10 ** 31, "1", []], [0, 1, -1, 41, True, "1", None]):
            self.refuses(BadNumber, "a", "w", number, count)
            self.refuses(BadNumber, "a", "nobody", number, count)
        for count in (-1, 41, True, False, "1", None, []):
            self.refuses(BadCount, "a", "w", 1, count)
            self.refuses(BadCount, "a", "nobody", 1, count)
        self.refuses(Unanswered, "a", "nobody", 1, 0)
        self.refuses(Spent, "a", "w", 1, 0)

    def test_every_refusal_is_a_book_error(self):
        for handed in (("b", "w"), ("a", "w", None), ("a", "w", 0, 41), ("a", "nobody"), ("a", "w", 0, 0)):
            with self.assertRaises(BookError):
                answered(self.book, *handed)


if __name__ == "__main__":
    unittest.main()
