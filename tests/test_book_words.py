import random
import unittest

from elderline.book import Book
from elderline.errors import BadBody, BadText, Unfounded
from helping import CHANGES, NO_NAMES, BookTest, bodies, chain, grown_book, letters, state

HI = [("say",), ("plus", 1)]
HO = [("put", 7), ("say",)]
EVERY_SORT = [
    ("say",), ("put", 0), ("plus", -10 ** 30), ("times", 10 ** 30), ("both", -1), ("any", 1), ("odd", 2), ("over", -3),
    ("part", 10), ("up", 0), ("down", 64), ("onwards",), ("ask", "hi"), ("try", "hi", "ho"),
]
BAD_STEPS = [
    None, True, 7, "say", "", ["say"], ["put", 1], {}, (), ("says",), ("",), ("go", 0), ("none",), ("SAY",), (None,),
    (True,), (0,), (["say"],), (("say",),), ("say", 1), ("say", "say"), ("put",), ("put", 1, 2), ("plus",),
    ("plus", 1, 1), ("times",), ("times", 1, 1), ("both",), ("both", 1, 1), ("any",), ("any", 1, 1), ("odd",),
    ("odd", 1, 1), ("over",), ("over", 1, 1), ("part",), ("part", 1, 1), ("up",), ("up", 1, 1), ("down",),
    ("down", 1, 1), ("onwards", "hi"), ("ask",), ("ask", "hi", "ho"), ("try",), ("try", "hi"),
    ("try", "hi", "else", "ho"),
    ("over", 0), ("part", 0), ("up", -1), ("up", 65), ("up", True), ("up", False), ("up", "1"), ("up", None),
    ("down", -1), ("down", 65), ("down", True), ("down", False), ("down", "1"), ("down", None),
]
BAD_AMOUNTS = [True, False, None, "", "1", "a", 1.0, [], [1], (1,), -10 ** 30 - 1, 10 ** 30 + 1]
BAD_STEPS += [
    (sort, amount) for sort in ("put", "plus", "times", "both", "any", "odd", "over", "part") for amount in BAD_AMOUNTS
]
BAD_STEPS += [("ask", word) for word in NO_NAMES]
BAD_STEPS += [("try", word, "hi") for word in NO_NAMES] + [("try", "hi", word) for word in NO_NAMES]
NO_LISTS = [None, True, False, 0, 1, "", "say", "a", (), ("say",), (("say",),), {}, {("say",): 1}, 1.5, b""]


def one_house():
    book = Book()
    book.found("a")
    return book


def taught(book, name, words):
    for word in words.split():
        book.teach(name, word, HI)


class Teaching(BookTest):
    def test_a_house_knows_nothing_at_first(self):
        book = one_house()
        self.assertEqual((book.words("a"), book.own_words("a"), book.body("a", "hi")), ([], [], None))

    def test_teach_answers_nothing(self):
        book = one_house()
        self.assertIsNone(book.teach("a", "hi", HI))
        self.assertIsNone(book.teach("a", "hi", []))

    def test_arguments_by_their_names(self):
        book = one_house()
        book.teach(name="a", word="hi", body=HI)
        self.assertEqual(book.body(name="a", word="hi"), HI)
        self.assertEqual((book.words(name="a"), book.own_words(name="a")), (["hi"], ["hi"]))
        self.assertIs(book.forget(name="a", word="hi"), True)

    def test_the_body_is_answered_as_it_was_taught(self):
        book = one_house()
        book.teach("a", "hi", EVERY_SORT)
        answer = book.body("a", "hi")
        self.assertEqual(answer, EVERY_SORT)
        self.assertIs(type(answer), list)
        self.assertTrue(all(type(step) is tuple for step in answer))
        self.assertEqual([[type(part) for part in step] for step in answer],
                         [[type(part) for part in step] for step in EVERY_SORT])

    def test_nought_to_thirty_steps(self):
        book = one_house()
        for length in range(31):
            body = [("put", n) for n in range(length)]
            book.teach("a", "hi", body)
            self.assertEqual(book.body("a", "hi"), body)

    def test_a_body_without_steps_is_a_body(self):
        book = one_house()
        book.teach("a", "hi", [])
        self.assertEqual(book.body("a", "hi"), [])
        self.assertEqual(book.own_words("a"), ["hi"])
        self.assertIs(book.forget("a", "hi"), True)

    def test_words_of_one_and_of_twenty_letters(self):
        book = one_house()
        taught(book, "a", "z " + "y" * 20)
        self.assertEqual(book.own_words("a"), ["z", "y" * 20])

    def test_words_that_are_called_like_houses_or_steps(self):
        book = one_house()
        taught(book, "a", "a say try house knows under")
        self.assertEqual(book.own_words("a"), ["a", "say", "try", "house", "knows", "under"])

    def test_a_step_may_name_a_word_that_nobody_knows(self):
        book = one_house()
        for body in ([("ask", "nobody")], [("try", "nobody", "none")], [("ask", "hi")], [("onwards",)]):
            book.teach("a", "hi", body)
            self.assertEqual(book.body("a", "hi"), body)

    def test_taught_anew(self):
        book = one_house()
        taught(book, "a", "hi ho he")
        book.teach("a", "hi", HO)
        self.assertEqual(book.own_words("a"), ["hi", "ho", "he"])
        self.assertEqual(bodies(book, "a"), [("hi", HO), ("ho", HI), ("he", HI)])
        book.teach("a", "ho", [])
        self.assertEqual(bodies(book, "a"), [("hi", HO), ("ho", []), ("he", HI)])

    def test_forgotten_and_taught_again(self):
        book = one_house()
        taught(book, "a", "hi ho he")
        self.assertIs(book.forget("a", "hi"), True)
        self.assertEqual((book.own_words("a"), book.body("a", "hi")), (["ho", "he"], None))
        book.teach("a", "hi", HO)
        self.assertEqual(bodies(book, "a"), [("ho", HI), ("he", HI), ("hi", HO)])
        self.assertEqual(book.words("a"), ["ho", "he", "hi"])

    def test_forgotten_twice(self):
        book = one_house()
        taught(book, "a", "hi ho")
        self.assertEqual([book.forget("a", "hi") for turn in range(3)], [True, False, False])
        self.assertEqual(book.own_words("a"), ["ho"])

    def test_what_was_never_known_is_not_forgotten(self):
        book = one_house()
        taught(book, "a", "hi")
        for word in ("ho", "h", "hii", "", "HI", "no word", "a" * 21):
            with self.subTest(word=word):
                self.assertIs(book.forget("a", word), False)
                self.assertIsNone(book.body("a", word))
        self.assertEqual(book.own_words("a"), ["hi"])

    def test_each_house_has_words_of_its_own(self):
        book = one_house()
        book.found("b")
        book.teach("a", "hi", HI)
        book.teach("b", "hi", HO)
        self.assertEqual((book.body("a", "hi"), book.body("b", "hi")), (HI, HO))
        self.assertIs(book.forget("a", "hi"), True)
        self.assertEqual((book.body("a", "hi"), book.body("b", "hi")), (None, HO))

    def test_two_books_with_the_same_house(self):
        one, other = one_house(), one_house()
        one.teach("a", "hi", HI)
        self.assertEqual((other.words("a"), other.body("a", "hi"), other.forget("a", "hi")), ([], None, False))


class AlongTheOrder(BookTest):
    def test_an_elders_words_are_told_but_not_owned(self):
        book = one_house()
        book.found("b", ["a"])
        book.teach("a", "hi", HI)
        self.assertEqual((book.words("b"), book.own_words("b")), (["hi"], []))
        self.assertIsNone(book.body("b", "hi"))
        self.assertIs(book.forget("b", "hi"), False)
        self.assertEqual((book.words("b"), book.body("a", "hi")), (["hi"], HI))

    def test_a_house_knows_nothing_of_those_under_it(self):
        book = one_house()
        book.found("b", ["a"])
        book.teach("b", "hi", HI)
        self.assertEqual((book.words("a"), book.own_words("a"), book.body("a", "hi")), ([], [], None))
        self.assertIs(book.forget("a", "hi"), False)
        self.assertEqual(book.body("b", "hi"), HI)

    def test_each_word_once_where_it_first_comes(self):
        book, names = chain(3)
        taught(book, names[0], "one two three")
        taught(book, names[1], "four two five")
        taught(book, names[2], "three six four")
        self.assertEqual(book.words(names[2]), ["three", "six", "four", "two", "five", "one"])
        self.assertEqual(book.words(names[1]), ["four", "two", "five", "one", "three"])
        self.assertEqual(book.words(names[0]), ["one", "two", "three"])

    def test_several_elders(self):
        book = Book()
        for name, elders in (("a", []), ("b", ["a"]), ("c", ["a"]), ("d", ["c", "b"])):
            book.found(name, elders)
        taught(book, "a", "low hi")
        taught(book, "b", "hi bee")
        taught(book, "c", "sea low")
        taught(book, "d", "dee")
        self.assertEqual(book.words("d"), ["dee", "sea", "low", "hi", "bee"])
        self.assertEqual(book.words("b"), ["hi", "bee", "low"])

    def test_taught_behind_the_founding(self):
        book, names = chain(3)
        self.assertEqual(book.words(names[2]), [])
        taught(book, names[1], "one")
        taught(book, names[0], "two one")
        self.assertEqual(book.words(names[2]), ["one", "two"])
        book.forget(names[1], "one")
        self.assertEqual(book.words(names[2]), ["two", "one"])
        book.forget(names[0], "two")
        taught(book, names[0], "two")
        self.assertEqual(book.words(names[2]), ["one", "two"])
        taught(book, names[0], "one")
        self.assertEqual(book.words(names[2]), ["one", "two"])

    def test_who_knows_a_word_first_is_told_by_order_and_body(self):
        book, names = chain(4)
        book.teach(names[0], "hi", HI)
        book.teach(names[2], "hi", [])
        knowing = [name for name in book.order(names[3]) if book.body(name, "hi") is not None]
        self.assertEqual(knowing, [names[2], names[0]])
        self.assertEqual([book.body(name, "hi") for name in knowing], [[], HI])

    def test_up_to_seventy_words_in_each_of_eight_houses(self):
        for count in (1, 2, 30, 69, 70):
            book, names = chain(8)
            words = letters(count + 8, first="w")
            for place, name in enumerate(names):
                taught(book, name, " ".join(words[place:place + count]))
            wanted = []
            for place, name in enumerate(names):
                own = words[place:place + count]
                wanted = own + [word for word in wanted if word not in own]
                self.assertEqual(book.own_words(name), own)
                self.assertEqual(book.words(name), wanted)

    def test_answers_are_lists_of_texts(self):
        book = one_house()
        taught(book, "a", "hi ho")
        for answer in (book.words("a"), book.own_words("a")):
            self.assertEqual((type(answer), [type(word) for word in answer]), (list, [str, str]))


class AgainstARetelling(BookTest):
    """Many calls on a book beside a plain retelling of points 6 and 7."""

    def check(self, book, orders, known):
        for name, order in orders.items():
            told = []
            for house in order:
                told += [word for word, body in known[house] if word not in told]
            self.assertEqual(book.words(name), told)
            self.assertEqual(bodies(book, name), known[name])

    def retell_teach(self, known, word, body):
        words = [one for one, old in known]
        if word in words:
            known[words.index(word)] = (word, body)
        else:
            known.append((word, body))

    def one_call(self, chance, book, known, words):
        name = chance.choice(list(known))
        word = chance.choice(words)
        if chance.random() < 0.6:
            body = chance.sample(EVERY_SORT, chance.randrange(0, 5))
            book.teach(name, word, body)
            self.retell_teach(known[name], word, body)
        else:
            knew = word in [one for one, old in known[name]]
            self.assertIs(book.forget(name, word), knew)
            known[name] = [pair for pair in known[name] if pair[0] != word]

    def test_many_calls(self):
        chance = random.Random(21)
        for turn in range(25):
            book = grown_book(chance, letters(8))
            orders = {name: book.order(name) for name in book.houses()}
            known = {name: [] for name in book.houses()}
            for call in range(60):
                self.one_call(chance, book, known, letters(6, first="w"))
                self.check(book, orders, known)
            self.assertEqual({name: book.order(name) for name in book.houses()}, orders)


class Apart(BookTest):
    """What the asker changes behind a call changes nothing in a book."""

    def setUp(self):
        self.book, self.names = chain(3)
        self.handed = list(EVERY_SORT)
        self.book.teach(self.names[0], "hi", self.handed)
        self.book.teach(self.names[1], "ho", HO)
        self.book.teach(self.names[2], "hi", [])
        self.before = state(self.book)

    def test_the_body_handed_in_is_not_changed(self):
        self.assertEqual(self.handed, EVERY_SORT)

    def test_a_body_handed_in_is_changed_behind_the_call(self):
        self.handed.clear()
        self.assertEqual(state(self.book), self.before)
        self.handed += HO
        self.assertEqual(state(self.book), self.before)

    def test_one_list_handed_in_for_several_words(self):
        body = [("say",)]
        for name in self.names:
            self.book.teach(name, "he", body)
            body.append(("onwards",))
        self.assertEqual([len(self.book.body(name, "he")) for name in self.names], [1, 2, 3])

    def test_answered_lists_that_are_changed(self):
        for change in CHANGES:
            for name in self.names:
                change(self.book.words(name))
                change(self.book.own_words(name))
                for word in self.book.own_words(name):
                    change(self.book.body(name, word))
            self.assertEqual(state(self.book), self.before)

    def test_an_answered_body_handed_in_for_another_word(self):
        body = self.book.body(self.names[0], "hi")
        self.book.teach(self.names[1], "he", body)
        body.clear()
        self.assertEqual(self.book.body(self.names[0], "hi"), EVERY_SORT)
        self.assertEqual(self.book.body(self.names[1], "he"), EVERY_SORT)

    def test_an_answer_stays_as_it_was_when_the_book_changes(self):
        words = self.book.words(self.names[2])
        body = self.book.body(self.names[0], "hi")
        self.book.forget(self.names[0], "hi")
        self.book.teach(self.names[2], "new", [])
        self.assertEqual((words, body), (["hi", "ho"], EVERY_SORT))

    def test_asking_changes_nothing(self):
        for name in self.names:
            self.book.body(name, "nothing")
            self.book.forget(name, "nothing")
        self.assertEqual(state(self.book), self.before)


class TeachRefusals(BookTest):
    def setUp(self):
        self.book = one_house()
        self.book.found("b", ["a"])
        self.book.teach("a", "hi", HI)
        self.book.teach("a", "ho", HO)
        self.book.teach("b", "he", [])
        self.before = state(self.book)

    def refuses(self, refusal, name, word, body):
        with self.subTest(name=name, word=word, body=body):
            self.refused(refusal, self.book.teach, name, word, body)
            self.assertEqual(state(self.book), self.before)

    def test_a_house_that_is_none(self):
        for name in ("c", "", "A", "aa", "a ", "hi", "a" * 21):
            self.refuses(Unfounded, name, "hi", HI)

    def test_what_is_no_word(self):
        for word in NO_NAMES:
            self.refuses(BadText, "a", word, HI)

    def test_numbers_with_too_many_figures_to_be_shown(self):
        self.refused(BadText, self.book.teach, "a", 10 ** 5000, HI)
        for body in (10 ** 5000, [10 ** 5000], [("put", 10 ** 5000)], [("up", -10 ** 5000)], [(10 ** 5000,)]):
            self.refused(BadBody, self.book.teach, "a", "hi", body)
        self.assertEqual(state(self.book), self.before)

    def test_a_body_that_is_no_list(self):
        for body in NO_LISTS:
            self.refuses(BadBody, "a", "hi", body)
            self.refuses(BadBody, "a", "new", body)

    def test_too_many_steps(self):
        for length in (31, 32, 100):
            self.refuses(BadBody, "a", "hi", [("say",)] * length)

    def test_a_bad_step(self):
        for step in BAD_STEPS:
            self.refuses(BadBody, "a", "hi", [step])
            self.refuses(BadBody, "b", "new", [("say",), step])
            self.refuses(BadBody, "b", "hi", [step, ("say",)])

    def test_two_reasons_give_the_first(self):
        for word in ("hi", "", None, ["hi"]):
            for body in (HI, None, [()], [("say",)] * 31):
                self.refuses(Unfounded, "c", word, body)
        for word in ("", "HI", None, ["hi"], True, 7):
            for body in (None, (), [()], [("say",)] * 31, [["say"]]):
                self.refuses(BadText, "a", word, body)

    def test_a_refused_body_is_not_changed(self):
        body = [("say",), ("over", 0), ("put", 1)]
        self.refused(BadBody, self.book.teach, "a", "hi", body)
        self.assertEqual(body, [("say",), ("over", 0), ("put", 1)])

    def test_taught_rightly_behind_a_refusal(self):
        self.refused(BadBody, self.book.teach, "b", "new", [("up", 65)])
        self.book.teach("b", "new", [("up", 64)])
        self.assertEqual(bodies(self.book, "b"), [("he", []), ("new", [("up", 64)])])


class NoHouse(BookTest):
    def test_every_call_of_a_house_that_is_none(self):
        book = one_house()
        book.teach("a", "hi", HI)
        before = state(book)
        for name in ("b", "", "A", "a ", "aa", "a" * 21, "hi"):
            for call in (book.order, book.elders, book.words, book.own_words):
                self.refused(Unfounded, call, name)
            for call in (book.forget, book.body):
                self.refused(Unfounded, call, name, "hi")
                self.refused(Unfounded, call, name, "")
            self.refused(Unfounded, book.teach, name, "hi", HI)
            self.assertEqual(state(book), before)

    def test_in_a_book_without_houses(self):
        self.refused(Unfounded, Book().order, "a")
        self.refused(Unfounded, Book().words, "a")

    def test_founded_behind_that(self):
        book = one_house()
        book.teach("a", "ho", HO)
        for call in (book.order, book.elders, book.words, book.own_words):
            self.refused(Unfounded, call, "b")
        self.refused(Unfounded, book.teach, "b", "hi", HI)
        book.found("b", ["a"])
        self.assertEqual((book.order("b"), book.elders("b")), (["b", "a"], ["a"]))
        self.assertEqual((book.words("b"), book.own_words("b"), book.body("b", "hi")), (["ho"], [], None))
        self.assertIs(book.forget("b", "hi"), False)
        self.assertIsNone(book.teach("b", "hi", HI))
        self.assertEqual((book.words("b"), book.body("b", "hi")), (["hi", "ho"], HI))
        self.assertIs(book.forget("b", "hi"), True)


if __name__ == "__main__":
    unittest.main()
