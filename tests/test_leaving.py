import itertools
import random
import unittest

from elderline.asking import answered
from elderline.book import Book
from elderline.errors import Spent, Unanswered, Unfounded
from elderline.leaving import left_out
from helping import (
    CHANGES, NUMBERS, WORK, BookTest, bodies, built, chain, changing_books, ending, grown_book, letters, plain_step,
    state, taught_by_chance, walked,
)

SAY = ("say",)
PLAIN = [
    SAY, ("put", 0), ("plus", -10 ** 30), ("times", 10 ** 30), ("both", -1), ("any", 1), ("odd", 2), ("over", -3),
    ("part", 10), ("up", 0), ("down", 64),
]


def diamond():
    """A book of four houses, all of which know w, some of which know more."""
    book = built("a", "b a", "c a", "d b c")
    book.teach("a", "w", [("plus", 1), SAY])
    book.teach("a", "x", [("try", "y", "v"), SAY])
    book.teach("b", "w", [("plus", 10), SAY, ("onwards",)])
    book.teach("b", "y", [SAY, ("ask", "x")])
    book.teach("c", "w", [("times", 3), ("onwards",), ("ask", "nobody")])
    book.teach("c", "v", [("ask", "y"), ("onwards",)])
    book.teach("d", "w", [("try", "nobody", "x"), ("try", "v", "nobody"), ("onwards",)])
    book.teach("d", "u", [("try", "nobody", "none")])
    return book


def all_bodies(book, name):
    return [body for house in book.order(name) for word, body in bodies(book, house)]


def plain_parts(steps):
    return [step for step in steps if step[0] not in ("onwards", "ask", "try", "go", "none", "either")]


class LeavingTest(BookTest):
    def check_way(self, step, rows):
        self.assertIs(type(step), tuple)
        if step[0] == "go":
            self.assertEqual((len(step), type(step[1])), (2, int))
            self.assertIn(step[1], range(len(rows)))
        else:
            self.assertEqual(step, ("none",))

    def check_row(self, row, rows):
        self.assertIs(type(row), list)
        for step in row:
            self.assertIs(type(step), tuple)
            self.assertIn(step[0], ["say", *WORK, "go", "none", "either"])
            if step[0] in ("go", "none"):
                self.check_way(step, rows)
            if step[0] == "either":
                self.assertEqual(len(step), 3)
                self.check_way(step[1], rows)
                self.check_way(step[2], rows)

    def check_form(self, book, name):
        """Point 15, of a house."""
        pair = left_out(book, name)
        self.assertEqual((type(pair), len(pair)), (tuple, 2))
        starts, rows = pair
        self.assertEqual((type(starts), type(rows)), (dict, list))
        self.assertEqual(list(starts), book.words(name))
        self.assertTrue(all(type(place) is int and 0 <= place < len(rows) for place in starts.values()))
        self.assertEqual(len(set(starts.values())), len(starts))
        for row in rows:
            self.check_row(row, rows)
        told = [(len(row), plain_parts(row)) for row in rows]
        known = [(len(body), plain_parts(body)) for body in all_bodies(book, name)]
        self.assertEqual(sorted(told), sorted(known))
        return starts, rows

    def check_ends(self, book, name, numbers=(0,), counts=range(41)):
        """Point 16, of a house: for each question the rows end as the house does."""
        starts, rows = left_out(book, name)
        seen = []
        for word, number, count in itertools.product(book.words(name) + ["nobody", "", "W"], numbers, counts):
            end = ending(answered, book, name, word, number, count)
            self.assertEqual(walked(starts, rows, word, number, count), end, (word, number, count))
            seen.append(end if isinstance(end, type) else list)
        return seen


class Forms(LeavingTest):
    def test_one_house(self):
        book = Book()
        book.found("a")
        book.teach("a", "w", PLAIN)
        self.assertEqual(left_out(book, "a"), ({"w": 0}, [PLAIN]))

    def test_a_house_without_words(self):
        book = built("a", "b a")
        self.assertEqual(self.check_form(book, "a"), ({}, []))
        self.assertEqual(self.check_form(book, "b"), ({}, []))
        book.teach("b", "w", [])
        self.assertEqual(self.check_form(book, "a"), ({}, []))
        self.assertEqual(self.check_form(book, "b"), ({"w": 0}, [[]]))

    def test_a_house_whose_forebears_alone_have_words(self):
        book = built("a", "b a", "c b")
        book.teach("a", "w", [SAY])
        self.assertEqual(self.check_form(book, "c"), ({"w": 0}, [[SAY]]))

    def test_houses_that_are_no_forebears_are_left_out(self):
        book = built("a", "b a", "c", "d b")
        for name in "abcd":
            book.teach(name, "w", [("put", ord(name))])
            book.teach(name, name, [])
        starts, rows = self.check_form(book, "b")
        self.assertEqual(list(starts), ["w", "b", "a"])
        self.assertEqual(sorted(rows), [[], [], [("put", 97)], [("put", 98)]])

    def test_bodies_that_no_step_leads_to_have_rows(self):
        book, names = chain(5)
        for name in names:
            book.teach(name, "w", [SAY])
        starts, rows = self.check_form(book, names[-1])
        self.assertEqual(rows, [[SAY]] * 5)

    def test_handed_on(self):
        book = built("a", "b a", "c b")
        book.teach("a", "w", [("put", 1), ("onwards",)])
        book.teach("c", "w", [("put", 3), ("onwards",), ("onwards",)])
        starts, rows = self.check_form(book, "c")
        first = starts["w"]
        self.assertEqual(rows[first], [("put", 3), ("go", 1 - first), ("go", 1 - first)])
        self.assertEqual(rows[1 - first], [("put", 1), ("none",)])

    def test_asked_and_tried(self):
        book = built("a", "b a")
        book.teach("b", "w", [("ask", "w"), ("ask", "x"), ("ask", "y"), ("try", "x", "y"), ("try", "y", "x")])
        book.teach("b", "v", [("try", "y", "y"), ("try", "w", "x"), ("try", "x", "x")])
        book.teach("a", "x", [("ask", "v")])
        starts, rows = self.check_form(book, "b")
        own, tried, old, none = [("go", starts[word]) for word in ("w", "v", "x")] + [("none",)]
        self.assertEqual(rows[starts["w"]], [own, old, none, ("either", old, none), ("either", none, old)])
        self.assertEqual(rows[starts["v"]], [("either", none, none), ("either", own, old), ("either", old, old)])
        self.assertEqual(rows[starts["x"]], [tried])

    def test_a_forebears_step_leads_to_the_house_that_was_asked(self):
        book = built("a", "b a")
        book.teach("a", "w", [("ask", "x"), ("try", "x", "x")])
        book.teach("a", "x", [("put", 1)])
        book.teach("b", "x", [("put", 2)])
        for name, amount in (("a", 1), ("b", 2)):
            starts, rows = self.check_form(book, name)
            place = starts["x"]
            self.assertEqual(rows[place], [("put", amount)])
            self.assertEqual(rows[starts["w"]], [("go", place), ("either", ("go", place), ("go", place))])

    def test_the_order_of_the_words(self):
        book = built("a", "b a")
        for word in ("z", "m", "a"):
            book.teach("a", word, [])
        for word in ("y", "m", "b"):
            book.teach("b", word, [])
        self.assertEqual(list(self.check_form(book, "b")[0]), ["y", "m", "b", "z", "a"])
        book.forget("b", "y")
        book.teach("b", "m", [SAY])
        book.teach("b", "y", [])
        self.assertEqual(list(self.check_form(book, "b")[0]), ["m", "b", "y", "z", "a"])
        book.forget("b", "m")
        self.assertEqual(list(self.check_form(book, "b")[0]), ["b", "y", "z", "m", "a"])

    def test_every_house_of_a_diamond(self):
        book = diamond()
        for name in book.houses():
            self.check_form(book, name)

    def test_bodies_of_every_length(self):
        chance = random.Random(41)
        book = Book()
        book.found("a")
        for length in range(31):
            book.teach("a", "w", [plain_step(chance) for step in range(length)])
            self.assertEqual(self.check_form(book, "a")[1], [book.body("a", "w")])
            book.teach("a", "w", [("onwards",)] * length)
            self.assertEqual(self.check_form(book, "a")[1], [[("none",)] * length])

    def test_arguments_by_their_names(self):
        book = diamond()
        self.assertEqual(left_out(book=book, name="d"), left_out(book, "d"))

    def test_books_by_chance(self):
        chance = random.Random(42)
        for turn in range(60):
            book = grown_book(chance, letters(8))
            taught_by_chance(chance, book, letters(8, first="w"))
            for name in book.houses():
                self.check_form(book, name)


class Apart(LeavingTest):
    """What the asker changes behind a call changes nothing in a book, nor does a call."""

    def test_told_twice_with_all_cleared_in_between(self):
        book = diamond()
        before = state(book)
        for name in book.houses():
            wanted = left_out(book, name)
            for change in CHANGES:
                starts, rows = left_out(book, name)
                for row in rows:
                    change(row)
                change(rows)
                starts.clear()
                self.assertEqual(left_out(book, name), wanted)
                self.assertEqual(state(book), before)

    def test_two_rows_are_two_lists(self):
        book, names = chain(4)
        body = [SAY, ("ask", "nobody")]
        for name in names:
            book.teach(name, "w", body)
        starts, rows = left_out(book, names[-1])
        rows[0].clear()
        self.assertEqual(rows[1:], [[SAY, ("none",)]] * 3)
        self.assertEqual(body, [SAY, ("ask", "nobody")])

    def test_a_pair_stays_as_it_was_when_the_book_changes(self):
        book = built("a", "b a")
        book.teach("a", "w", [SAY])
        old = left_out(book, "b")
        book.teach("b", "w", [("onwards",), SAY])
        self.assertEqual(old, ({"w": 0}, [[SAY]]))
        starts, rows = self.check_form(book, "b")
        self.assertEqual(rows[starts["w"]], [("go", 1 - starts["w"]), SAY])
        book.teach("a", "w", [])
        self.assertEqual(sorted(self.check_form(book, "b")[1], key=len), [[], rows[starts["w"]]])
        book.forget("a", "w")
        self.assertEqual(self.check_form(book, "b"), ({"w": 0}, [[("none",), SAY]]))
        book.forget("b", "w")
        self.assertEqual(self.check_form(book, "b"), ({}, []))


class Ends(LeavingTest):
    def test_a_walk_by_hand(self):
        starts, rows = left_out(diamond(), "d")
        self.assertEqual(walked(starts, rows, "y", 5, 40), Spent)
        self.assertEqual(walked(starts, rows, "u", 5, 1), Unanswered)
        self.assertEqual(walked(starts, rows, "u", 5, 0), Spent)
        self.assertEqual(walked(starts, rows, "nobody", 5, 0), Unanswered)

    def test_every_house_of_a_diamond(self):
        book = diamond()
        for name in book.houses():
            self.check_ends(book, name, NUMBERS)

    def test_handed_on_along_a_chain(self):
        for length in (1, 2, 39, 40, 41, 60):
            book, names = chain(length)
            for name in names:
                book.teach(name, "w", [("plus", 1), SAY] + [("onwards",)] * (name != names[0]))
                book.teach(name, "x", [SAY, ("onwards",)])
                book.teach(name, "y", [SAY, ("try", "x", "w"), SAY])
            self.check_form(book, names[-1])
            self.check_ends(book, names[-1])
            end = list(range(1, length + 1)) if length <= 40 else Spent
            self.assertEqual(walked(*left_out(book, names[-1]), "w"), end)

    def test_tries_within_tries(self):
        book = built("a", "b a")
        book.teach("b", "w", [SAY, ("try", "u", "v"), SAY])
        book.teach("b", "u", [("plus", 1), SAY, ("try", "x", "y"), SAY])
        book.teach("b", "x", [("plus", 10), SAY, ("onwards",)])
        book.teach("a", "x", [("plus", 100), SAY, ("ask", "nobody")])
        book.teach("b", "y", [("plus", 1000), SAY, ("onwards",)])
        book.teach("b", "v", [("try", "x", "z"), SAY])
        book.teach("a", "z", [SAY, ("plus", 5)])
        self.assertEqual(walked(*left_out(book, "b"), "w"), [0, 0, 5, 5])
        self.assertEqual(self.check_ends(book, "b").count(list), 32 + 37 + 40)

    def test_books_by_chance(self):
        chance = random.Random(43)
        seen = []
        for turn in range(40):
            book = grown_book(chance, letters(6))
            taught_by_chance(chance, book, letters(7, first="w"))
            before = state(book)
            for name in book.houses():
                seen += self.check_ends(book, name, [chance.choice(NUMBERS)])
            self.assertEqual(state(book), before)
        self.assertGreater(min(seen.count(kind) for kind in (list, Unanswered, Spent)), 1000)

    def test_words_by_chance_taught_anew_and_forgotten(self):
        for book, words in changing_books(random.Random(44), 30):
            for name in book.houses():
                self.check_form(book, name)
                self.check_ends(book, name, [3], (0, 1, 2, 3, 7, 40))


class Refusals(LeavingTest):
    def test_a_house_that_is_none(self):
        book = diamond()
        before = state(book)
        for name in ("e", "", "A", "a ", "w", "a" * 21):
            self.refused(Unfounded, left_out, book, name)
        self.refused(Unfounded, left_out, Book(), "a")
        self.assertEqual(state(book), before)


if __name__ == "__main__":
    unittest.main()
