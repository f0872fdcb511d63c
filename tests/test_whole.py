"""Points 13, 15, 16, 17 and 20 over the whole program: however a house is asked, the end is the same."""

import itertools
import random
import unittest

from elderline.ahead import told_ahead
from elderline.asking import answered
from elderline.errors import Spent, Unanswered
from elderline.leaving import left_out
from elderline.running import run
from elderline.texts import read, written
from elderline.weaving import woven_run
from helping import (
    NUMBERS, BookTest, built, chain, changing_books, ending, grown_book, letters, retold, state, taught_by_chance,
)


class WholeTest(BookTest):
    def check(self, book, numbers, counts=range(41)):
        before = state(book)
        seen = [end for name in book.houses() for end in self.check_house(book, name, numbers, counts)]
        self.assertEqual(state(book), before)
        return seen

    def check_house(self, book, name, numbers, counts):
        starts, rows = left_out(book, name)
        pair = dict(starts), [list(row) for row in rows]
        told = told_ahead(rows)
        seen = []
        for word in book.words(name) + ["nobody"]:
            end = told[starts[word]] if word in starts else ("unanswered", 0)
            for number, count in itertools.product(numbers, counts):
                said = ending(answered, book, name, word, number, count)
                self.assertEqual(ending(run, starts, rows, word, number, count), said, (name, word, number, count))
                self.assertEqual(ending(woven_run, starts, rows, word, number, count), said)
                self.check_told(end, count, said)
            seen.append(end[0])
        self.assertEqual((starts, rows), pair)
        return seen

    def check_told(self, end, count, said):
        if end[0] == "never" or count < end[1]:
            self.assertIs(said, Spent)
        elif end[0] == "unanswered":
            self.assertIs(said, Unanswered)
        else:
            self.assertIs(type(said), list)


class Whole(WholeTest):
    def test_a_diamond(self):
        book = built("a", "b a", "c a", "d b c")
        book.teach("a", "w", [("plus", 1), ("say",)])
        book.teach("a", "x", [("try", "y", "v"), ("say",)])
        book.teach("b", "w", [("plus", 10), ("say",), ("onwards",)])
        book.teach("b", "y", [("say",), ("ask", "w"), ("onwards",)])
        book.teach("c", "w", [("times", 3), ("onwards",), ("say",)])
        book.teach("c", "v", [("ask", "w"), ("part", 4)])
        book.teach("d", "w", [("say",), ("onwards",)])
        book.teach("d", "u", [("try", "nobody", "none")])
        book.teach("d", "z", [("try", "z", "w")])
        seen = self.check(book, NUMBERS)
        self.assertEqual(answered(book, "d", "x", 2), [2, 12, 37, 37, 1, 9])
        self.assertEqual([seen.count(end) for end in ("answers", "unanswered", "never")], [8, 9, 1])

    def test_a_chain_of_houses(self):
        for length in (1, 2, 39, 40, 41, 60):
            book, names = chain(length)
            for name in names:
                book.teach(name, "w", [("plus", 1), ("say",)] + [("onwards",)] * (name != names[0]))
                book.teach(name, "x", [("say",), ("onwards",)])
                book.teach(name, "y", [("say",), ("try", "x", "w"), ("say",)])
            self.check_house(book, names[-1], (0, -10 ** 30), range(41))
            starts, rows = left_out(book, names[-1])
            told = told_ahead(rows)
            self.assertEqual([told[starts[word]] for word in "wxy"],
                             [("answers", length), ("unanswered", length), ("answers", 2 * length + 1)])

    def test_a_house_without_words(self):
        book = built("a", "b a")
        self.assertEqual(self.check(book, (0,)), ["unanswered"] * 2)
        self.assertEqual(told_ahead(left_out(book, "b")[1]), [])

    def test_a_chain_of_words_each_asked_twice(self):
        book = built("a", "b a")
        words = letters(62, first="w")
        for word, further in zip(words, words[1:]):
            book.teach("a", word, [("ask", further), ("ask", further)])
        book.teach("b", words[-1], [("plus", 1), ("say",)])
        starts, rows = left_out(book, "b")
        self.assertEqual([told_ahead(rows)[starts[word]] for word in words],
                         [("answers", 2 ** (62 - place) - 1) for place in range(62)])
        self.assertEqual(answered(book, "b", words[-4], 0), [1, 2, 3, 4, 5, 6, 7, 8])
        self.check_house(book, "b", (0, 7), (0, 1, 3, 7, 15, 31, 39, 40))

    def test_words_taught_anew_and_forgotten(self):
        book = built("a", "b a", "c b")
        book.teach("a", "w", [("put", 1), ("say",)])
        book.teach("b", "w", [("onwards",), ("put", 2), ("say",)])
        book.teach("c", "x", [("try", "w", "y"), ("say",)])
        self.assertEqual(self.check(book, (0, 5)).count("answers"), 4)
        book.forget("a", "w")
        self.assertEqual(self.check(book, (0, 5)).count("answers"), 0)
        book.teach("c", "y", [("plus", 9), ("say",)])
        self.check(book, (0, 5))
        self.assertEqual(answered(book, "c", "x", 1), [10, 10])
        book.teach("b", "w", [("ask", "x")])
        self.assertEqual(self.check(book, (0, 5)).count("never"), 2)

    def test_books_by_chance(self):
        chance = random.Random(91)
        seen = []
        for turn in range(12):
            book = grown_book(chance, letters(6))
            taught_by_chance(chance, book, letters(6, first="w"))
            seen += self.check(book, chance.sample(NUMBERS, 3))
        self.assertGreater(min(seen.count(end) for end in ("answers", "unanswered", "never")), 10)

    def test_books_by_chance_taught_anew_and_forgotten(self):
        chance = random.Random(92)
        for book, words in changing_books(chance, 15):
            self.check(book, [chance.choice(NUMBERS)])

    def test_books_that_were_written_and_read_again(self):
        chance = random.Random(93)
        for book, words in changing_books(chance, 15):
            again = read(written(book))
            for name, word in itertools.product(book.houses(), words):
                number, count = chance.choice(NUMBERS), chance.randint(0, 40)
                wanted = retold(book, name, word, number, count)
                self.assertEqual(ending(answered, again, name, word, number, count), wanted)
                self.assertEqual(ending(woven_run, *left_out(again, name), word, number, count), wanted)

    def test_a_text_from_its_reading_to_its_end(self):
        book = read("house base\nhouse left under base\nhouse right under base\nhouse tip under left, right\n"
                    "base knows hello: plus 1; say\nleft knows hello: say; times 3; onwards\n"
                    "right knows hello: plus 2; onwards\ntip knows greet: try nobody else hello; say\n")
        self.assertEqual(answered(book, "tip", "greet", 5), [5, 18, 18])
        starts, rows = left_out(book, "tip")
        self.assertEqual((run(starts, rows, "greet", 5), woven_run(starts, rows, "greet", 5)), ([5, 18, 18],) * 2)
        self.assertEqual(told_ahead(rows)[starts["greet"]], ("answers", 4))


if __name__ == "__main__":
    unittest.main()
