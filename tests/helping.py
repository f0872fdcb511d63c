"""What several of the tests need."""

import unittest

from elderline.book import Book

# What is no name and no word, of whatever kind.
NO_NAMES = [
    "", "a" * 21, "a" * 40, "A", "aB", "a1", "1", "a b", " a", "a ", "a_b", "a-b", "a\n", "\n", "`", "{", "\xe4",
    "a\u0430", None, True, False, 0, 1, -1, 1.5, [], ["a"], [["a"]], (), ("a",), {}, {"a": 1}, b"a",
]
# What an asker may do to a list that is his own.
CHANGES = [
    list.clear, list.reverse, lambda answer: answer.append("x"), lambda answer: answer.insert(0, "x"),
]


def told_by_the_words(rows):
    """Point 3 to the letter: the merged row, or None where the rows are at odds."""
    rows = [list(row) for row in rows]
    answer = []
    while any(rows):
        free = [row[0] for row in rows if row and not any(row[0] in other[1:] for other in rows)]
        if not free:
            return None
        answer.append(free[0])
        rows = [[name for name in row if name != free[0]] for row in rows]
    return answer


def letters(count, first="a"):
    """As many names of one length, in the order of their letters."""
    small = "abcdefghijklmnopqrstuvwxyz"
    return [first + small[place // 676] + small[place // 26 % 26] + small[place % 26] for place in range(count)]


def chain(length):
    """A book of houses, each under the one ahead, and their names."""
    book = Book()
    names = letters(length)
    for place, name in enumerate(names):
        book.found(name, names[place - 1:place] if place else [])
    return book, names


def state(book):
    """All that a book tells of itself, in the order in which it tells it."""
    return [
        (name, book.elders(name), book.order(name), book.words(name), bodies(book, name))
        for name in book.houses()
    ]


def bodies(book, name):
    return [(word, book.body(name, word)) for word in book.own_words(name)]


class BookTest(unittest.TestCase):
    def refused(self, refusal, call, *handed):
        """The refusal of a call, which must be of that very class."""
        with self.assertRaises(refusal) as caught:
            call(*handed)
        self.assertIs(type(caught.exception), refusal)
        return caught.exception

    def check_ring(self, ring, rows, labels):
        self.assertIs(type(ring), list)
        self.assertGreaterEqual(len(ring), 2)
        for leaning in ring:
            self.assertIs(type(leaning), tuple)
            self.assertEqual([type(part) for part in leaning], [str, str, str])
            ahead, after, label = leaning
            self.assertTrue(any(
                ahead in row and after in row and row.index(ahead) < row.index(after)
                for row, named in zip(rows, labels) if named == label
            ), leaning)
        self.assertEqual([leaning[1] for leaning in ring], [leaning[0] for leaning in ring[1:] + ring[:1]])
        self.assertEqual(len({leaning[0] for leaning in ring}), len(ring))
