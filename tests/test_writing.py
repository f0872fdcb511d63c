"""Point 20: books written as texts, and texts listed."""

import random
import unittest

from elderline.book import Book
from elderline.texts import listed, read, written
from helping import BookTest, asking_step, bodies, built, changing_books, grown_book, letters, plain_step, state

EVERY_SORT = [
    ("say",), ("put", 0), ("plus", -10 ** 30), ("times", 10 ** 30), ("both", -1), ("any", 1), ("odd", 2), ("over", -3),
    ("part", 10), ("up", 0), ("down", 64), ("onwards",), ("ask", "hi"), ("try", "hi", "ho"),
]
EVERY_SORT_WRITTEN = (
    "say; put 0; plus -1000000000000000000000000000000; times 1000000000000000000000000000000; both -1; any 1; odd 2; "
    "over -3; part 10; up 0; down 64; onwards; ask hi; try hi else ho"
)


def written_sign_by_sign(book):
    """Point 20, once more."""
    text = ""
    for name in book.houses():
        text += "house " + name
        for place, elder in enumerate(book.elders(name)):
            text += (", " if place else " under ") + elder
        text += "\n"
        for word, body in bodies(book, name):
            text += name + " knows " + word + ":"
            for place, step in enumerate(body):
                text += ";" * bool(place)
                for part in step[:2]:
                    text += " " + str(part)
                if step[0] == "try":
                    text += " else " + step[2]
            text += "\n"
    return text


class WriteTest(BookTest):
    def check(self, book, wanted=None):
        """What is written is as wanted, and is read to a book that is alike; the first book stays as it was."""
        before = state(book)
        text = written(book)
        self.assertIs(type(text), str)
        self.assertEqual(text, written_sign_by_sign(book) if wanted is None else wanted)
        again = read(text)
        self.assertEqual(state(again), before)
        self.assertEqual(written(again), text)
        self.assertEqual(state(book), before)
        return again


class Written(WriteTest):
    def test_an_empty_book(self):
        self.check(Book(), "")

    def test_houses_under_none_one_and_several(self):
        self.check(built("a"), "house a\n")
        self.check(built("b", "a b"), "house b\nhouse a under b\n")
        self.check(built("z", "y", "x", "w z y x", "v w"),
                   "house z\nhouse y\nhouse x\nhouse w under z, y, x\nhouse v under w\n")

    def test_a_body_without_steps_ends_with_the_colon(self):
        book = built("a")
        book.teach("a", "w", [])
        self.check(book, "house a\na knows w:\n")

    def test_one_step_and_two(self):
        book = built("a")
        book.teach("a", "w", [("say",)])
        self.check(book, "house a\na knows w: say\n")
        book.teach("a", "w", [("put", -7), ("say",)])
        self.check(book, "house a\na knows w: put -7; say\n")

    def test_every_sort_of_step(self):
        book = built("a")
        book.teach("a", "hi", EVERY_SORT)
        self.check(book, f"house a\na knows hi: {EVERY_SORT_WRITTEN}\n")
        for step, text in zip(EVERY_SORT, EVERY_SORT_WRITTEN.split("; ")):
            book.teach("a", "hi", [step])
            self.check(book, f"house a\na knows hi: {text}\n")

    def test_words_stand_behind_their_house_in_the_order_of_its_own(self):
        book = built("m", "c m")
        for word in ("z", "b", "k"):
            book.teach("c", word, [])
            book.teach("m", word * 2, [("ask", word)])
        self.check(book, "house m\nm knows zz: ask z\nm knows bb: ask b\nm knows kk: ask k\n"
                         "house c under m\nc knows z:\nc knows b:\nc knows k:\n")
        book.teach("c", "z", [("say",)])
        book.forget("m", "zz")
        book.teach("m", "zz", [])
        self.check(book, "house m\nm knows bb: ask b\nm knows kk: ask k\nm knows zz:\n"
                         "house c under m\nc knows z: say\nc knows b:\nc knows k:\n")

    def test_an_elders_words_are_not_written_again(self):
        book = built("a", "b a")
        book.teach("a", "w", [("say",)])
        self.check(book, "house a\na knows w: say\nhouse b under a\n")

    def test_what_was_forgotten_is_not_written(self):
        book = built("a")
        book.teach("a", "w", [("say",)])
        book.forget("a", "w")
        self.check(book, "house a\n")

    def test_names_that_are_called_like_the_lines_own_words(self):
        book = built("house", "under house", "knows under", "forgets house")
        book.teach("house", "forgets", [("try", "else", "try"), ("ask", "say")])
        book.teach("knows", "knows", [])
        self.check(book, "house house\nhouse knows forgets: try else else try; ask say\nhouse under under house\n"
                         "house knows under under\nknows knows knows:\nhouse forgets under house\n")

    def test_the_longest_names(self):
        long, word = "a" * 20, "z" * 20
        book = built(long, f"b {long}")
        book.teach(long, word, [("try", word, word)])
        self.check(book, f"house {long}\n{long} knows {word}: try {word} else {word}\nhouse b under {long}\n")

    def test_bodies_of_every_length(self):
        chance = random.Random(81)
        for length in range(31):
            book = built("a")
            book.teach("a", "w", [plain_step(chance) for step in range(length)])
            book.teach("a", "v", [asking_step(chance, ["w", "v"]) for step in range(length)])
            self.check(book)

    def test_the_second_book_is_another(self):
        book = built("a", "b a")
        book.teach("a", "w", [("say",)])
        before = state(book)
        again = self.check(book)
        again.forget("a", "w")
        again.found("c")
        self.assertEqual(state(book), before)
        book.teach("b", "v", [])
        self.assertEqual(again.own_words("b"), [])

    def test_arguments_by_their_names(self):
        self.assertEqual(written(book=built("a")), "house a\n")

    def test_what_was_read_in_another_form(self):
        text = "-- houses\n\n  house a \nhouse b   \nhouse c under a  ,b\nc knows w  :say  ;put 3\n"
        text += "c knows v: say\nc forgets v"
        self.assertEqual(written(read(text)), "house a\nhouse b\nhouse c under a, b\nc knows w: say; put 3\n")

    def test_books_by_chance(self):
        chance = random.Random(82)
        for turn in range(200):
            book = grown_book(chance, letters(turn % 8))
            for name in book.houses():
                for word in chance.sample(letters(6, first="w"), chance.randint(0, 5)):
                    book.teach(name, word, [
                        plain_step(chance) if chance.random() < 0.6 else asking_step(chance, ["w", "nobody"])
                        for step in range(chance.choice([0, 1, 2, 5, 30]))
                    ])
            self.check(book)

    def test_books_by_chance_taught_anew_and_forgotten(self):
        for book, words in changing_books(random.Random(83), 40):
            self.check(book)


class Listed(BookTest):
    def check(self, lines, wanted):
        """With and without a last line end."""
        self.assertEqual(listed("\n".join(lines) + "\n"), wanted)
        if lines and lines[-1] != "":
            self.assertEqual(listed("\n".join(lines)), wanted)

    def test_no_lines(self):
        self.assertEqual(listed(""), "")

    def test_one_line(self):
        self.check(["house a"], "1 house a\n")
        self.check([""], "1 \n")
        self.check([" "], "1  \n")

    def test_lines_stay_as_they_are(self):
        lines = ["  house a  ", "-- a remark", "no line", ":", " ~!\"#$ ", "1 house b"]
        self.check(lines, "1   house a  \n2 -- a remark\n3 no line\n4 :\n5  ~!\"#$ \n6 1 house b\n")

    def test_empty_lines(self):
        self.check(["a", "", "b"], "1 a\n2 \n3 b\n")
        self.check(["", "a"], "1 \n2 a\n")
        self.assertEqual(listed("a\n\n"), "1 a\n2 \n")
        self.assertEqual(listed("a\n\n\n"), "1 a\n2 \n3 \n")
        self.assertEqual(listed("\n"), "1 \n")
        self.assertEqual(listed("\n\n"), "1 \n2 \n")
        self.assertEqual(listed("\n" * 10), "".join(f"{number:02} \n" for number in range(1, 11)))

    def test_numbers_are_filled_to_the_width_of_the_last_one(self):
        self.check(["x"] * 9, "1 x\n2 x\n3 x\n4 x\n5 x\n6 x\n7 x\n8 x\n9 x\n")
        self.check(["x"] * 10, "01 x\n02 x\n03 x\n04 x\n05 x\n06 x\n07 x\n08 x\n09 x\n10 x\n")
        for count, width in ((1, 1), (9, 1), (10, 2), (11, 2), (99, 2), (100, 3), (101, 3), (999, 3), (1000, 4),
                             (1001, 4), (9999, 4), (10000, 5), (12345, 5)):
            lines = [f"line {place}" for place in range(count)]
            wanted = [str(place + 1).rjust(width, "0") + " " + line for place, line in enumerate(lines)]
            self.check(lines, "\n".join(wanted) + "\n")

    def test_a_book_that_is_written_and_listed(self):
        book = built("a", "b a")
        book.teach("a", "w", [("say",)])
        self.assertEqual(listed(written(book)), "1 house a\n2 a knows w: say\n3 house b under a\n")
        self.assertEqual(listed(written(Book())), "")

    def test_the_number_of_a_bad_line(self):
        text = "house a\n\nno line\nhouse b"
        with self.assertRaises(ValueError) as caught:
            read(text)
        self.assertEqual(listed(text).split("\n")[caught.exception.line - 1], "3 no line")

    def test_arguments_by_their_names(self):
        self.assertEqual(listed(text="a"), "1 a\n")

    def test_the_answer_is_a_text(self):
        self.assertEqual((type(listed("")), type(listed("a"))), (str, str))


if __name__ == "__main__":
    unittest.main()
