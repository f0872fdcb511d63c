import itertools
import random
import unittest

from elderline.book import Book
from elderline.errors import AtOdds, BadText, Doubled, Founded, Unfounded
from helping import CHANGES, NO_NAMES, BookTest, built, chain, letters, state, told_by_the_words


def turned_ways(names):
    """The names as they are, backwards, and turned round by each number of places."""
    turned = [names[place:] + names[:place] for place in range(len(names))]
    return turned + [row[::-1] for row in turned]


class Foundings(BookTest):
    def test_a_new_book_has_no_houses(self):
        self.assertEqual(Book().houses(), [])

    def test_two_books_know_nothing_of_each_other(self):
        one, other = Book(), Book()
        one.found("a")
        self.assertEqual(other.houses(), [])
        other.found("a")
        other.found("b", ["a"])
        self.assertEqual(one.houses(), ["a"])

    def test_found_answers_nothing(self):
        book = Book()
        self.assertIsNone(book.found("a"))
        self.assertIsNone(book.found("b", []))
        self.assertIsNone(book.found("c", ["a", "b"]))

    def test_elders_left_out(self):
        book = Book()
        book.found("a")
        book.found("b")
        self.assertEqual(state(book), [("a", [], ["a"], [], []), ("b", [], ["b"], [], [])])

    def test_elders_left_out_and_an_empty_list_are_alike(self):
        ways = [("left out", ()), ("handed in", ([],))]
        for first, second in itertools.product(ways, ways):
            with self.subTest(first=first[0], second=second[0]):
                book = Book()
                self.assertIsNone(book.found("a", *first[1]))
                self.assertIsNone(book.found("b", *second[1]))
                self.assertEqual(book.houses(), ["a", "b"])
                self.assertEqual((book.elders("a"), book.elders("b")), ([], []))
                self.assertEqual((book.order("a"), book.order("b")), (["a"], ["b"]))
                self.assertEqual((type(book.elders("a")), type(book.order("a"))), (list, list))

    def test_arguments_by_their_names(self):
        book = Book()
        book.found(name="a")
        book.found(name="b", elders=["a"])
        self.assertEqual(book.order(name="b"), ["b", "a"])
        self.assertEqual(book.elders(name="b"), ["a"])

    def test_houses_are_told_as_they_were_founded(self):
        names = ["m", "z", "a", "aa", "b", "zz", "y"]
        book = built(*names)
        self.assertEqual(book.houses(), names)

    def test_names_of_every_length(self):
        names = ["q" * length for length in range(1, 21)]
        book = built(*names)
        self.assertEqual(book.houses(), names)
        book.found("w", names)
        self.assertEqual(book.order("w"), ["w"] + names)

    def test_houses_under_none(self):
        names = letters(61)
        book = built(*names)
        self.assertEqual(book.houses(), names)
        self.assertEqual([book.order(name) for name in names], [[name] for name in names])
        self.assertEqual([book.elders(name) for name in names], [[] for name in names])

    def test_each_house_under_the_one_ahead(self):
        for length in (1, 2, 3, 8, 30, 60, 61):
            book, names = chain(length)
            with self.subTest(length=length):
                self.assertEqual(book.houses(), names)
                for place, name in enumerate(names):
                    self.assertEqual(book.order(name), names[place::-1])
                    self.assertEqual(book.elders(name), names[place - 1:place] if place else [])

    def test_each_house_under_none_or_under_the_one_ahead(self):
        chance = random.Random(11)
        for turn in range(30):
            book = Book()
            names = chance.sample(letters(80), chance.randrange(1, 62))
            orders, elders = {}, {}
            ahead = None
            for name in names:
                under = [ahead] if ahead and chance.random() < 0.8 else []
                book.found(name, list(under))
                elders[name] = under
                orders[name] = [name] + (orders[ahead] if under else [])
                ahead = name
            self.assertEqual(book.houses(), names)
            self.assertEqual({name: book.order(name) for name in names}, orders)
            self.assertEqual({name: book.elders(name) for name in names}, elders)

    def test_a_long_chain(self):
        book, names = chain(300)
        self.assertEqual(book.order(names[-1]), names[::-1])

    def test_answers_are_lists_of_texts(self):
        book = built("a", "b", "c a b")
        for answer in (book.houses(), book.order("c"), book.elders("c"), book.elders("a"), book.order("a")):
            self.assertIs(type(answer), list)
            self.assertTrue(all(type(name) is str for name in answer))


class Apart(BookTest):
    """What the asker changes behind a call changes nothing in a book."""

    def test_answered_lists_that_are_cleared(self):
        book, names = chain(61)
        book.found("q", [names[-1]])
        wanted = state(book)
        for change in CHANGES:
            for name in book.houses():
                change(book.order(name))
                change(book.elders(name))
                change(book.words(name))
                change(book.own_words(name))
            change(book.houses())
            self.assertEqual(state(book), wanted)

    def test_asked_twice_with_the_answers_cleared_in_between(self):
        book = built("a", "b", "c a b", "d c")
        for turn in range(2):
            asked = [book.houses(), book.order("d"), book.elders("c"), book.order("c")]
            self.assertEqual(asked, [["a", "b", "c", "d"], ["d", "c", "a", "b"], ["a", "b"], ["c", "a", "b"]])
            for answer in asked:
                answer.clear()

    def test_the_list_of_elders_is_not_changed(self):
        book = built("a", "b a", "c a")
        elders = ["b", "c"]
        book.found("d", elders)
        self.assertEqual(elders, ["b", "c"])

    def test_the_list_of_elders_is_cleared_behind_the_call(self):
        book = built("a", "b a", "c a")
        elders = ["b", "c"]
        book.found("d", elders)
        elders.clear()
        self.assertEqual(book.elders("d"), ["b", "c"])
        self.assertEqual(book.order("d"), ["d", "b", "c", "a"])
        book.found("e", elders)
        elders.append("a")
        self.assertEqual((book.elders("e"), book.order("e")), ([], ["e"]))

    def test_one_list_of_elders_for_several_houses(self):
        book = Book()
        elders = []
        for name in letters(10):
            book.found(name, elders)
            elders[:] = [name]
        self.assertEqual(book.order("aaaj"), letters(10)[::-1])
        self.assertEqual(book.elders("aaaj"), ["aaai"])

    def test_an_answered_list_handed_in_as_elders(self):
        book = built("a", "b", "c a b")
        elders = book.elders("c")
        book.found("d", elders)
        elders.reverse()
        self.assertEqual((book.elders("c"), book.elders("d")), (["a", "b"], ["a", "b"]))

    def test_foundings_under_none_touch_no_other_one(self):
        for handed in ((), ([],)):
            book, second = Book(), Book()
            book.found("a", *handed)
            for change in CHANGES:
                change(book.elders("a"))
                change(book.order("a"))
                for elders in handed:
                    change(elders)
            book.found("b")
            book.found("c", [])
            second.found("a")
            self.assertEqual(state(book), [(name, [], [name], [], []) for name in ("a", "b", "c")])
            self.assertEqual(state(second), [("a", [], ["a"], [], [])])


class SeveralElders(BookTest):
    def found_or_refused(self, book, name, elders):
        """Founds the house if its rows agree, as a retelling of the words says; else sees it refused."""
        orders = [book.order(elder) for elder in elders]
        wanted = told_by_the_words(orders + [elders])
        before = state(book)
        if wanted is None:
            ring = self.refused(AtOdds, book.found, name, elders).ring
            self.check_ring(ring, orders + [elders], elders + [name])
            self.assertEqual(state(book), before)
            self.refused(Unfounded, book.order, name)
            return False
        book.found(name, elders)
        self.assertEqual(book.order(name), [name] + wanted)
        self.assertEqual(book.elders(name), elders)
        self.assertEqual(state(book)[:-1], before)
        return True

    def test_the_diamond(self):
        book = built("a", "b a", "c a", "d b c", "e c b")
        self.assertEqual(book.order("d"), ["d", "b", "c", "a"])
        self.assertEqual(book.order("e"), ["e", "c", "b", "a"])

    def test_the_row_of_elders_comes_last(self):
        book = built("a", "b a", "c", "d c", "e b d", "f d b")
        self.assertEqual(book.order("e"), ["e", "b", "a", "d", "c"])
        self.assertEqual(book.order("f"), ["f", "d", "c", "b", "a"])

    def test_an_elder_that_is_an_elder_of_an_elder(self):
        book = built("a", "b a", "c b a")
        self.assertEqual(book.order("c"), ["c", "b", "a"])
        ring = self.refused(AtOdds, book.found, "d", ["a", "b"]).ring
        self.assertEqual(sorted(ring), [("a", "b", "d"), ("b", "a", "b")])

    def test_orders_that_lean_against_each_other(self):
        book = built("a", "b", "c a b", "d b a")
        ring = self.refused(AtOdds, book.found, "e", ["c", "d"]).ring
        self.assertEqual(sorted(ring), [("a", "b", "c"), ("b", "a", "d")])

    def test_a_house_at_odds_is_not_founded(self):
        book = built("a", "b", "c a b", "d b a")
        before = state(book)
        for turn in range(3):
            self.refused(AtOdds, book.found, "e", ["c", "d"])
            self.assertEqual(state(book), before)
        self.refused(Unfounded, book.elders, "e")
        self.refused(Unfounded, book.found, "f", ["e"])
        book.found("e")
        self.assertEqual(state(book), before + [("e", [], ["e"], [], [])])
        book.found("f", ["c", "e"])
        self.assertEqual(book.order("f"), ["f", "c", "a", "b", "e"])

    def test_a_ring_and_elders_that_are_changed_by_the_asker(self):
        book = built("a", "b", "c a b", "d b a")
        before = state(book)
        elders = ["c", "d"]
        refusal = self.refused(AtOdds, book.found, "e", elders)
        self.assertEqual(elders, ["c", "d"])
        refusal.ring.clear()
        elders.clear()
        self.assertEqual(state(book), before)
        self.assertEqual(len(self.refused(AtOdds, book.found, "e", ["d", "c"]).ring), 2)

    def test_elders_as_they_were_founded_backwards_and_turned_round(self):
        for count in (1, 2, 3, 5, 8, 20):
            names = letters(count)
            for elders in turned_ways(names):
                book = built(*names)
                self.found_or_refused(book, "q", elders)
                self.assertEqual(book.order("q"), ["q"] + elders)

    def test_elders_of_a_chain_in_every_way(self):
        for count in (2, 3, 4, 6):
            names = chain(count)[1]
            for elders in turned_ways(names):
                book = chain(count)[0]
                agreed = self.found_or_refused(book, "q", elders)
                self.assertEqual(agreed, elders == names[::-1])

    def test_sixty_elders(self):
        names = letters(60)
        for elders in (names, names[::-1], names[20:] + names[:20]):
            book = built("p", *[name + " p" for name in names])
            self.found_or_refused(book, "q", elders)
            self.assertEqual(book.order("q"), ["q"] + elders + ["p"])
        book = chain(60)[0]
        self.assertTrue(self.found_or_refused(book, "q", names[::-1]))
        self.assertFalse(self.found_or_refused(book, "r", names))
        self.assertFalse(self.found_or_refused(book, "s", ["q"] + names))

    def test_every_row_of_elders_over_a_small_book(self):
        for size in range(1, 5):
            houses = ["a", "b", "c a b", "d b"]
            for elders in itertools.permutations("abcd", size):
                self.found_or_refused(built(*houses), "e", list(elders))

    def test_growing_books(self):
        chance = random.Random(12)
        agreed = {True: 0, False: 0}
        for turn in range(60):
            book = Book()
            for name in letters(15):
                houses = book.houses()
                elders = chance.sample(houses, chance.randrange(0, min(4, len(houses)) + 1))
                answer = self.found_or_refused(book, name, elders)
                agreed[answer] += 1
                if not answer:
                    book.found(name)
                    self.assertEqual((book.order(name), book.elders(name)), ([name], []))
        self.assertGreater(min(agreed.values()), 50)

    def test_as_python_orders_its_own_classes(self):
        chance = random.Random(13)
        for turn in range(60):
            book = Book()
            classes = {}
            for name in letters(15):
                elders = chance.sample(list(classes), chance.randrange(0, min(3, len(classes)) + 1))
                try:
                    made = type(name, tuple(classes[elder] for elder in elders), {})
                except TypeError:
                    self.refused(AtOdds, book.found, name, elders)
                    self.assertEqual(book.houses(), list(classes))
                else:
                    classes[name] = made
                    book.found(name, elders)
                    self.assertEqual(book.order(name), [one.__name__ for one in made.__mro__[:-1]])

    def test_no_founding_changes_an_elder(self):
        book = built("a", "b a", "c a")
        book.teach("a", "hi", [("say",)])
        book.teach("b", "ho", [("onwards",)])
        before = state(book)
        book.found("d", ["b", "c"])
        self.refused(AtOdds, book.found, "e", ["a", "b"])
        book.found("e", ["d", "b"])
        self.assertEqual(state(book)[:3], before)


class FoundRefusals(BookTest):
    def setUp(self):
        self.book = built("a", "b a", "c", "d c a")
        self.book.teach("b", "hi", [("say",)])
        self.before = state(self.book)

    def refuses(self, refusal, name, *rest):
        with self.subTest(name=name, rest=rest):
            self.refused(refusal, self.book.found, name, *rest)
            self.assertEqual(state(self.book), self.before)

    def test_what_is_no_name(self):
        for name in NO_NAMES:
            self.refuses(BadText, name)
            self.refuses(BadText, name, ["a"])

    def test_a_number_with_too_many_figures_to_be_shown(self):
        self.refused(BadText, self.book.found, 10 ** 5000)
        self.assertEqual(state(self.book), self.before)

    def test_every_sign_that_is_no_small_letter(self):
        for sign in map(chr, range(128)):
            if not "a" <= sign <= "z":
                self.refuses(BadText, sign)
                self.refuses(BadText, "ab" + sign + "c")

    def test_a_house_that_is_founded(self):
        for name in ("a", "b", "c", "d"):
            self.refuses(Founded, name)
            self.refuses(Founded, name, [])
            self.refuses(Founded, name, ["c"])

    def test_an_elder_that_is_no_house(self):
        for elders in (["x"], ["a", "x"], ["x", "a"], ["x", "x"], ["a", "c", "x"], [""], ["A"], ["a" * 21], ["a "]):
            self.refuses(Unfounded, "q", elders)

    def test_a_house_under_itself(self):
        self.refuses(Unfounded, "q", ["q"])
        self.refuses(Unfounded, "q", ["a", "q"])

    def test_an_elder_that_stands_twice(self):
        for elders in (["a", "a"], ["a", "c", "a"], ["c", "a", "a"], ["c", "c", "c"], ["b", "c", "b", "c"]):
            self.refuses(Doubled, "q", elders)

    def test_rows_at_odds(self):
        for elders in (["a", "b"], ["a", "c", "d"], ["c", "b", "a", "d"]):
            self.refuses(AtOdds, "q", elders)

    def test_two_reasons_give_the_first(self):
        for name in ("", "A", None, ["a"], 7):
            for elders in (["x"], ["a", "a"], ["a", "b"]):
                self.refuses(BadText, name, elders)
        for elders in (["x"], ["a", "a"], ["a", "b"], ["b"]):
            self.refuses(Founded, "b", elders)
        for elders in (["a", "a", "x"], ["x", "a", "a"], ["x", "x"], ["a", "b", "x"], ["x", "a", "b"], ["q", "q"]):
            self.refuses(Unfounded, "q", elders)
        for elders in (["a", "b", "a"], ["a", "b", "b"], ["a", "a", "b"]):
            self.refuses(Doubled, "q", elders)

    def test_what_was_refused_can_be_founded_rightly(self):
        for elders in (["x"], ["a", "a"], ["a", "b"]):
            book = built("a", "b a")
            with self.assertRaises(ValueError):
                book.found("q", elders)
            book.found("q", ["b"])
            self.assertEqual(book.order("q"), ["q", "b", "a"])

    def test_refused_elders_are_not_changed(self):
        for elders in (["x", "a"], ["a", "c", "a"], ["a", "b"]):
            handed = list(elders)
            with self.assertRaises(ValueError):
                self.book.found("q", handed)
            self.assertEqual(handed, elders)


if __name__ == "__main__":
    unittest.main()
