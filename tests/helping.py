"""What several of the tests need."""

import itertools
import operator
import unittest

from elderline.book import Book
from elderline.errors import BookError, Spent, Unanswered

# What is no name and no word, of whatever kind.
NO_NAMES = [
    "", "a" * 21, "a" * 40, "A", "aB", "a1", "1", "a b", " a", "a ", "a_b", "a-b", "a\n", "\n", "`", "{", "\xe4",
    "a\u0430", None, True, False, 0, 1, -1, 1.5, [], ["a"], [["a"]], (), ("a",), {}, {"a": 1}, b"a",
]
# What can't be asked with, as a number or as a count.
NO_NUMBERS = [
    -10 ** 30 - 1, 10 ** 30 + 1, -10 ** 60, 10 ** 60, 10 ** 5000, True, False, None, "", "0", "a", 0.0, 1.5,
    float("nan"), [], [0], (), (0,), {}, {0: 0}, b"0", {0}, object(),
]
NO_COUNTS = [
    -1, 41, -10 ** 30, 10 ** 30, 42, 100, 10 ** 5000, -10 ** 5000, True, False, None, "", "0", "a", 0.0, 40.0,
    float("nan"), [], [0], (), (0,), {}, {0: 0}, b"0", {0}, object(),
]
# What an asker may do to a list that is his own.
CHANGES = [
    list.clear, list.reverse, lambda answer: answer.append("x"), lambda answer: answer.insert(0, "x"),
]

# Both bounds of amounts and inputs, what lies beside them, and numbers of every smaller size.
NUMBERS = [0, 1, 2, 7, 40, -1, -2, -9, 2 ** 64, -2 ** 64, 10 ** 30 - 1, 10 ** 30, 1 - 10 ** 30, -10 ** 30]
SAY = ("say",)
NONE = ("none",)
# What Python's own signs do.
WORK = {
    "put": lambda number, amount: amount, "plus": operator.add, "times": operator.mul, "over": operator.floordiv,
    "both": operator.and_, "any": operator.or_, "odd": operator.xor, "up": operator.lshift, "down": operator.rshift,
    "part": operator.floordiv,
}


def told_by_the_words(rows):
    """Point 3 to the letter: the merged row, or None where the rows are at odds."""
    rows = [list(row) for row in rows]
    answer = []
    while any(rows):
        free = [row[0] for row in rows if row and not any(row[0] in other[1:] for other in rows)]
        if not free:
            return None
        answer.append(free[0])
        rows = [[name for name in row if name != free[0]] for row in rows]
    return answer


def letters(count, first="a"):
    """As many names of one length, in the order of their letters."""
    small = "abcdefghijklmnopqrstuvwxyz"
    return [first + small[place // 676] + small[place // 26 % 26] + small[place % 26] for place in range(count)]


def chain(length):
    """A book of houses, each under the one ahead, and their names."""
    book = Book()
    names = letters(length)
    for place, name in enumerate(names):
        book.found(name, names[place - 1:place] if place else [])
    return book, names


def state(book):
    """All that a book tells of itself, in the order in which it tells it."""
    return [
        (name, book.elders(name), book.order(name), book.words(name), bodies(book, name))
        for name in book.houses()
    ]


def bodies(book, name):
    return [(word, book.body(name, word)) for word in book.own_words(name)]


def built(*foundings):
    """A book of houses, each told as its name and its elders, parted by blanks."""
    book = Book()
    for founding in foundings:
        name, *elders = founding.split()
        book.found(name, elders)
    return book


def grown_book(chance, names):
    """A book of houses under none to three of those ahead of them, as chance has it."""
    book = Book()
    for name in names:
        houses = book.houses()
        try:
            book.found(name, chance.sample(houses, chance.randrange(0, min(3, len(houses)) + 1)))
        except BookError:
            book.found(name)
    return book


def plain_step(chance):
    """A step that enters no body, with a small amount or one of any size."""
    sort = chance.choice(["say", "say", *WORK])
    if sort == "say":
        return ("say",)
    if sort in ("up", "down"):
        return (sort, chance.choice([0, 1, 2, 3, 63, 64]))
    amount = chance.choice([chance.randint(-9, 9), chance.randint(-10 ** 30, 10 ** 30), -10 ** 30, 10 ** 30])
    return (sort, amount or 1)


def asking_step(chance, words):
    """An onwards, an ask or a try, of those words."""
    sort = chance.choice(["onwards", "ask", "ask", "try", "try", "try"])
    return (sort, *[chance.choice(words) for part in range({"onwards": 0, "ask": 1, "try": 2}[sort])])


def taught_by_chance(chance, book, words, length=6):
    """Teaches each house some of the words. Most bodies ask for words further on alone, so that many come to an end."""
    for name in book.houses():
        for place, word in enumerate(words):
            if chance.random() < 0.7:
                further = words[place + 1:] or ["nobody"]
                further = further if chance.random() < 0.9 else words
                book.teach(name, word, [
                    asking_step(chance, further) if chance.random() < 0.4 else plain_step(chance)
                    for step in range(chance.randrange(0, length + 1))
                ])


def go(place):
    return ("go", place)


def either(one, other):
    return ("either", one, other)


def way_by_chance(chance, places):
    """A go to one of those places, or a none."""
    return go(chance.choice(places)) if places and chance.random() < 0.8 else NONE


def leading_step(chance, places):
    """A go, a none or an either, to those places."""
    if chance.random() < 0.5:
        return way_by_chance(chance, places)
    return either(way_by_chance(chance, places), way_by_chance(chance, places))


# Where the rows by chance may lead to from a place, out of so many rows.
LEADS = {
    "later rows alone": lambda place, count: range(place + 1, count),
    "the next rows alone": lambda place, count: range(place + 1, min(place + 4, count)),
    "earlier rows alone": lambda place, count: range(place),
    "earlier rows and itself": lambda place, count: range(place + 1),
    "itself alone": lambda place, count: [place],
    "any row": lambda place, count: range(count),
}


def rows_by_chance(chance, count, leads, length=4):
    """So many rows of none to so many steps of all sorts, that lead to where the name in LEADS says."""
    return [
        [
            leading_step(chance, LEADS[leads](place, count)) if chance.random() < 0.4 else plain_step(chance)
            for step in range(chance.randint(0, length))
        ]
        for place in range(count)
    ]


def changing_books(chance, turns):
    """Books with words taught by chance, each told again behind words taught anew and forgotten; and the words."""
    words = letters(6, first="w")
    for turn in range(turns):
        book = grown_book(chance, letters(6))
        for again in range(3):
            taught_by_chance(chance, book, words)
            for name, word in itertools.product(book.houses(), words):
                if chance.random() < 0.3:
                    book.forget(name, word)
            yield book, words


def worked(step, number):
    """What a step that enters no body says, and the number in hand behind it."""
    if step[0] == "say":
        return [number], number
    said = [number % step[1]] if step[0] == "part" else []
    return said, WORK[step[0]](number, step[1])


def ending(call, *handed):
    """The answer of a question, or the class of the refusal where it is Unanswered or Spent."""
    try:
        return call(*handed)
    except (Unanswered, Spent) as refusal:
        return type(refusal)


class Retelling:
    """Points 9 to 14 with one pile of what is still to be done, and no call within a call."""

    def __init__(self, book, name, number, count):
        self.book, self.order = book, book.order(name)
        self.number, self.left, self.said, self.pile = number, count, [], []

    def ask(self, word, first):
        """The refusal that this ends in, or None."""
        for place, house in list(enumerate(self.order))[first:]:
            steps = self.book.body(house, word)
            if steps is not None:
                self.left -= 1
                self.pile += [("step", step, word, place) for step in reversed(steps)]
                return Spent if self.left < 0 else None
        while self.pile:
            kind, *kept = self.pile.pop()
            if kind == "try":
                other, self.said, self.number = kept
                return self.ask(other, 0)
        return Unanswered

    def step(self, step, word, place):
        if step[0] == "onwards":
            return self.ask(word, place + 1)
        if step[0] == "ask":
            return self.ask(step[1], 0)
        if step[0] == "try":
            self.pile.append(("try", step[2], list(self.said), self.number))
            return self.ask(step[1], 0)
        said, self.number = worked(step, self.number)
        self.said += said
        return None

    def end(self, word):
        refusal = self.ask(word, 0)
        while refusal is None and self.pile:
            kind, *kept = self.pile.pop()
            refusal = self.step(*kept) if kind == "step" else None
        return self.said if refusal is None else refusal


def retold(book, name, word, number=0, count=40):
    return Retelling(book, name, number, count).end(word)


def walked(starts, rows, word, number=0, count=40):
    """Point 16 by itself: nothing is taken back, for what is said is only put together where it stays."""

    def do(step, number, left):
        if step[0] == "go":
            return row(step[1], number, left)
        if step[0] == "none":
            return Unanswered, [], number, left
        if step[0] == "either":
            one = do(step[1], number, left)
            return do(step[2], number, one[3]) if one[0] is Unanswered else one
        return (None, *worked(step, number), left)

    def row(place, number, left):
        end, said, left = (Spent, [], 0) if left == 0 else (None, [], left - 1)
        for step in rows[place]:
            if end is None:
                end, more, number, left = do(step, number, left)
                said = said + more
        return end, said, number, left

    end, said, number, left = row(starts[word], number, count) if word in starts else (Unanswered, [], number, count)
    return said if end is None else end


class BookTest(unittest.TestCase):
    def refused(self, refusal, call, *handed):
        """The refusal of a call, which must be of that very class."""
        with self.assertRaises(refusal) as caught:
            call(*handed)
        self.assertIs(type(caught.exception), refusal)
        return caught.exception

    def check_ring(self, ring, rows, labels):
        self.assertIs(type(ring), list)
        self.assertGreaterEqual(len(ring), 2)
        for leaning in ring:
            self.assertIs(type(leaning), tuple)
            self.assertEqual([type(part) for part in leaning], [str, str, str])
            ahead, after, label = leaning
            self.assertTrue(any(
                ahead in row and after in row and row.index(ahead) < row.index(after)
                for row, named in zip(rows, labels) if named == label
            ), leaning)
        self.assertEqual([leaning[1] for leaning in ring], [leaning[0] for leaning in ring[1:] + ring[:1]])
        self.assertEqual(len({leaning[0] for leaning in ring}), len(ring))
