"""Points 18 and 19: books read from texts."""

import itertools
import random
import re
import unittest

from elderline.book import Book
from elderline.errors import BadSource, BookError
from elderline.texts import read
from helping import CHANGES, BookTest, asking_step, bodies, built, letters, plain_step, state

# Three lines ahead of the one that a test is about.
AHEAD = "house a\nhouse b under a\na knows w: say\n"
# Words that stand in lines, and are names and words like any others.
OWN_WORDS = """house under knows forgets try else ask say put plus times both any odd over part up down onwards go none
either""".split()
AMOUNT_SORTS = ["put", "plus", "times", "both", "any", "odd", "over", "part"]


def knows(text):
    """The body that is read from what stands behind the colon."""
    return read("house a\na knows w:" + text).body("a", "w")


def ahead():
    book = built("a", "b a")
    book.teach("a", "w", [("say",)])
    return book


class ReadTest(BookTest):
    def bad(self, text, line):
        """The text is refused with that line's number."""
        refusal = self.refused(BadSource, read, text)
        self.assertEqual((type(refusal.line), refusal.line), (int, line), text)

    def bad_lines(self, *lines):
        for line in lines:
            with self.subTest(line=line):
                self.bad(AHEAD + line, 4)
                self.bad(AHEAD + line + "\n", 4)
                self.bad("\n-- so far\n" + AHEAD + "\n" + line + "\nhouse c\nno line", 7)

    def bad_steps(self, *steps):
        self.bad_lines(*["a knows v: " + step for step in steps])
        self.bad_lines(*["a knows v: say; " + step + "; say" for step in steps])

    def alike(self, text, book):
        self.assertEqual(state(read(text)), state(book), text)


class Lines(ReadTest):
    def test_a_house_under_none_one_and_several(self):
        text = "house base\nhouse left under base\nhouse right under base\nhouse tip under left, right"
        self.alike(text, built("base", "left base", "right base", "tip left right"))

    def test_the_answer_is_a_book(self):
        self.assertIs(type(read("")), Book)
        self.assertIs(type(read("house a")), Book)

    def test_arguments_by_their_names(self):
        self.assertEqual(read(text="house a").houses(), ["a"])

    def test_a_house_knows(self):
        book = read("house a\na knows w: put 1; say\na knows v:\nhouse b under a\nb knows w: onwards; try v else w")
        self.assertEqual(bodies(book, "a"), [("w", [("put", 1), ("say",)]), ("v", [])])
        self.assertEqual(bodies(book, "b"), [("w", [("onwards",), ("try", "v", "w")])])

    def test_taught_anew(self):
        book = read("house a\na knows w: say\na knows v:\na knows w: put 3")
        self.assertEqual(bodies(book, "a"), [("w", [("put", 3)]), ("v", [])])

    def test_a_house_forgets(self):
        book = read("house a\na knows w: say\na knows v:\na forgets w")
        self.assertEqual(bodies(book, "a"), [("v", [])])
        book = read("house a\na knows w: say\na knows v:\na forgets w\na knows w: put 3")
        self.assertEqual(bodies(book, "a"), [("v", []), ("w", [("put", 3)])])

    def test_a_house_forgets_what_it_does_not_know(self):
        self.bad_lines("a forgets v", "b forgets w", "c forgets w", "a forgets a")
        self.bad("house a\na knows w:\na forgets w\na forgets w", 4)

    def test_last_line_ends(self):
        for end in ("", "\n", "\n\n", "\n\n\n", "\n  ", "\n  \n"):
            self.alike(AHEAD.rstrip("\n") + end, ahead())

    def test_no_lines(self):
        for text in ("", "\n", "\n\n", " ", "   \n  \n", "--", "--\n", "-- house a", "--house a\n\n  --\n"):
            self.assertEqual(read(text).houses(), [])

    def test_blanks_at_a_lines_ends(self):
        for left, right in itertools.product(("", " ", "    "), repeat=2):
            text = "\n".join(left + line + right for line in AHEAD.split("\n"))
            self.alike(text, ahead())
            self.alike(f"{text}\n{left}a forgets w{right}", built("a", "b a"))

    def test_lines_that_are_passed_over(self):
        for line in ("", " ", "     ", "--", "-- a remark", "  -- a remark ", "---", "--house c", "-- a knows w:",
                     "--:;,", "-- a forgets w", "--\t", "-- -- ~!"):
            lines = AHEAD.split("\n")
            for place in range(4):
                self.alike("\n".join(lines[:place] + [line] + lines[place:]), ahead())

    def test_a_remark_has_a_line_to_itself(self):
        self.bad_lines("house c -- c", "a knows v: say -- say", "a knows v: -- none", "a knows v: say; -- none",
                       "a forgets w -- w", "-", "- -", "- house c", "-house c", "house -- c")

    def test_more_blanks_around_the_signs(self):
        book = ahead()
        book.found("c")
        book.found("d", ["b", "c"])
        book.teach("d", "v", [("say",), ("try", "w", "v"), ("put", -3)])
        for one, other in itertools.product(("", " ", "  ", "     "), repeat=2):
            comma, colon, parting = [one + sign + other for sign in ",:;"]
            row = f"say{parting}try w else v{parting}put -3"
            self.alike(f"{AHEAD}house c\nhouse d under b{comma}c\nd knows v{colon}{row}", book)
            self.assertEqual(read(f"{AHEAD}b knows v{colon}").body("b", "v"), [])

    def test_just_one_blank_anywhere_else(self):
        lines = ["house c", "house c under a", "house c under b, a", "a knows v: put 3", "a knows v: say; put 3; say",
                 "a knows v: ask w", "a knows v: try w else v", "a knows v:", "a forgets w"]
        for line in lines:
            read(AHEAD + line)
            for found in re.finditer(r"(?<=[a-z]) (?=[a-z0-9])", line):
                for other in ("  ", "   ", "\t", " \t", "\t ", "", "_", "\xa0"):
                    self.bad_lines(line[:found.start()] + other + line[found.end():])

    def test_tabs(self):
        self.bad_lines("\t", " \t ", "\thouse c", "house c\t", "\t-- a remark", "house c under a,\tb",
                       "house c under a\t, b", "a knows v:\t", "a knows v:\tsay", "a knows v\t: say",
                       "a knows v: say\t; say", "a knows v: say;\tsay", "a forgets w\t", "\ta forgets w")

    def test_other_signs_are_no_line_ends(self):
        for sign in ("\r", "\x0b", "\x0c", "\x1c", "\x85", "\u2028"):
            self.bad(AHEAD + "house c" + sign + "house d", 4)
            self.bad(AHEAD + "house c" + sign, 4)

    def test_houses_and_words_that_are_called_like_the_lines_own_words(self):
        book = Book()
        lines = []
        for place, name in enumerate(OWN_WORDS):
            elders = OWN_WORDS[max(0, place - 1):place]
            book.found(name, elders)
            lines.append(f"house {name} under {elders[0]}" if elders else f"house {name}")
        self.alike("\n".join(lines), book)
        for name, word in itertools.product(OWN_WORDS, OWN_WORDS):
            book.teach(name, word, [("ask", name), ("try", word, name), ("try", "else", word)])
            lines.append(f"{name} knows {word}: ask {name}; try {word} else {name}; try else else {word}")
        self.alike("\n".join(lines), book)
        for name, word in itertools.product(OWN_WORDS, OWN_WORDS):
            book.forget(name, word)
            lines.append(f"{name} forgets {word}")
        self.alike("\n".join(lines), book)
        book.found("last", OWN_WORDS[::-1])
        self.alike("\n".join(lines + ["house last under " + " ,".join(OWN_WORDS[::-1])]), book)

    def test_a_house_called_forgets(self):
        self.alike("house house\nhouse forgets\nhouse under under forgets", built("house", "forgets", "under forgets"))
        self.bad("house house\nhouse forgets forgets", 2)
        book = read("house house\nhouse knows forgets:\nhouse forgets forgets")
        self.assertEqual((book.houses(), book.words("house")), (["house"], []))


class Steps(ReadTest):
    def test_each_sort(self):
        steps = [("say",), ("put", 1), ("plus", -2), ("times", 3), ("both", 4), ("any", 5), ("odd", 6), ("over", -7),
                 ("part", 8), ("up", 9), ("down", 64), ("onwards",), ("ask", "w"), ("try", "w", "v")]
        texts = ["say", "put 1", "plus -2", "times 3", "both 4", "any 5", "odd 6", "over -7", "part 8", "up 9",
                 "down 64", "onwards", "ask w", "try w else v"]
        for step, text in zip(steps, texts):
            self.assertEqual(knows(text), [step])
        self.assertEqual(knows(" " + "; ".join(texts)), steps)
        self.assertEqual(knows(";".join(texts)), steps)
        told = [[type(part) for part in step] for step in knows("; ".join(texts))]
        self.assertEqual(told, [[type(part) for part in step] for step in steps])

    def test_nothing_behind_the_colon(self):
        for text in ("", " ", "      "):
            self.assertEqual(knows(text), [])

    def test_bodies_of_every_length(self):
        for length in range(31):
            self.assertEqual(knows("; ".join(["put 7"] * length)), [("put", 7)] * length)
        for length in (31, 32, 60):
            self.bad_lines("a knows v: " + "; ".join(["say"] * length))

    def test_steps_that_are_empty(self):
        self.bad_lines("a knows v: ;", "a knows v:;", "a knows v: say;", "a knows v: ;say", "a knows v: say;;say",
                       "a knows v: say; ;say", "a knows v:; ;")

    def test_amounts(self):
        amounts = [0, 1, -1, 9, 10, -10, 100, 10 ** 29, 10 ** 30 - 1, 10 ** 30, 1 - 10 ** 30, -10 ** 30]
        for sort, amount in itertools.product(AMOUNT_SORTS, amounts):
            if amount != 0 or sort not in ("over", "part"):
                self.assertEqual(knows(f" {sort} {amount}"), [(sort, amount)])

    def test_moves(self):
        for sort, amount in itertools.product(("up", "down"), range(65)):
            self.assertEqual(knows(f"{sort} {amount}"), [(sort, amount)])
        self.bad_steps("up 65", "down 65", "up -1", "down -1", f"up {10 ** 30}", "down 064", "up 00", "up -0")

    def test_amounts_beyond_the_bounds(self):
        for sort in AMOUNT_SORTS:
            self.bad_steps(f"{sort} {10 ** 30 + 1}", f"{sort} {-10 ** 30 - 1}", f"{sort} {10 ** 31}",
                           f"{sort} -{'9' * 40}", sort + " " + "1" * 5000, sort + " -" + "1" * 5000)

    def test_amounts_that_are_nought(self):
        self.bad_steps("over 0", "part 0")

    def test_what_is_no_amount(self):
        amounts = ["", "00", "01", "007", "-0", "-00", "-01", "+1", "+0", "--1", "-", "+", "1-", "1_0", "1.0", "1e3",
                   "0x1", "0b1", "0o7", "a", "one", "-a", "1a", "- 1", "1 0", "1 2", " 1", "\u0661", "\xb2", "1\u0660",
                   "True", "None", "'1'", "(1)", "0" * 40, "-" + "0" * 40, "~", "2**3"]
        for sort in [*AMOUNT_SORTS, "up", "down"]:
            self.bad_steps(*[f"{sort} {amount}" for amount in amounts])

    def test_steps_that_are_none(self):
        self.bad_steps("says", "Say", "SAY", "sa", "say 1", "say say", "onwards w", "onwards 1", "go 0", "none",
                       "either", "either none none", "minus 1", "1", "w", "say, say", "say,", "say.", "(say)", "'say'",
                       "knows", "house c", "say: say", ":", "say:")

    def test_asks(self):
        for word in ("w", "z" * 20, *OWN_WORDS):
            self.assertEqual(knows("ask " + word), [("ask", word)])
        self.bad_steps("ask", "ask w v", "ask W", "ask 1", "ask 0", "ask -1", "ask w1", "ask " + "w" * 21, "ask w,v")

    def test_tries(self):
        for word, other in itertools.product(("w", "z" * 20, *OWN_WORDS), repeat=2):
            self.assertEqual(knows(f"try {word} else {other}"), [("try", word, other)])
        self.bad_steps("try", "try w", "try w v", "try w else", "try else v", "try w else v w", "try w or v",
                       "try w Else v", "try w else v else w", "try else", "try else else", "try W else v",
                       "try w else V", "try 1 else v", "try w else 1", "try w; else v", "try w else else v",
                       "try " + "w" * 21 + " else v", "try v else " + "w" * 21, "try w, v", "try w v else")


class Refusals(ReadTest):
    def test_what_is_no_house_line(self):
        self.bad_lines("a", "house", "houses c", "House c", "house c under", "house c d", "house c over a", "c under a",
                       "house under a", "house c under a b", "house c under a under b", "house c, d", "house c,",
                       "house c under a,", "house c under ,a", "house c under a,,b", "house c under , ", "house, c",
                       "house c under a, b c", "house c under a, under b", "house c; house d", "house c.", "house c:",
                       "house c: under a", ",", "~", "0", "a w")

    def test_what_is_no_line_of_knowing(self):
        self.bad_lines("knows", "a knows", "a knows w", "a knows w say", "a known w:", "knows w: say", "a knows: say",
                       "a w: say", "house a knows w: say", "a knows w v: say", ":", ": say", "a: say",
                       "a knows w:: say", "a knows w: v: say", "a, b knows w: say", "a knows v, w: say", ";",
                       "a knows v; say", "a knows v = say", "a knows  w: say", "a  knows w: say")

    def test_what_is_no_line_of_forgetting(self):
        self.bad_lines("forgets", "a forgets", "forgets w", "a forgets w v", "a b forgets w", "a forgets w, w",
                       "a Forgets w", "a forget w", "a forgets w:", "a forgets: w", "a  forgets w", "a forgets  w")

    def test_what_a_book_refuses_to_found(self):
        self.bad_lines("house C", "house c1", "house " + "c" * 21, "house a", "house b", "house b under a",
                       "house c under d", "house c under c", "house c under a, d", "house c under a, a",
                       "house c under b, a, b", "house c under A", "house C under a", "house \xe4")

    def test_rows_at_odds(self):
        self.bad_lines("house c under a, b")
        text = "house x\nhouse y\nhouse p under x, y\nhouse q under y, x\n"
        read(text)
        self.bad(text + "\nhouse r under p, q", 6)
        self.bad(text + "\nhouse r under p, q\n\nhouse s\n", 6)

    def test_what_a_book_refuses_to_teach(self):
        self.bad_lines("c knows w: say", "c knows w:", "A knows w:", "a knows W:", "a knows w1:", "w knows w:",
                       "a knows " + "w" * 21 + ":", "a knows v: over 0", "a knows v: up 65", "\xe4 knows w:")

    def test_a_house_that_comes_too_late(self):
        self.bad("house b under a\nhouse a", 1)
        self.bad("house b\n\nc knows w:\nhouse c", 3)
        self.bad("house b\nb forgets w\nb knows w:", 2)

    def test_lines_are_counted_from_one_over_all_lines(self):
        passed = ["", "-- a remark", "house c", "   ", "a knows v: say", "a forgets v", " --"]
        for length in (0, 1, 2, 7, 70):
            lines = [] if length == 0 else ["house a"] + (passed[:2] * length)[:length - 1]
            self.bad("\n".join([*lines, "no line", "house b"]), length + 1)
        self.bad("\n".join(["house a", *passed, "house a"]), 9)

    def test_the_first_of_several_bad_lines(self):
        self.bad("house a\nno line\nhouse a\nb knows w: say", 2)
        self.bad("house a\nhouse a\nno line", 2)
        self.bad("house a\n\n\nb knows w: say\nb forgets w\n:\n", 4)
        for places in itertools.combinations(range(1, 7), 2):
            lines = ["" if place not in places else "no line" for place in range(7)]
            self.bad("\n".join(lines), places[0] + 1)

    def test_a_line_that_says_two_things_at_once_wrong(self):
        self.bad_lines("c knows W: up 65", "house A under d, d", "c forgets W")

    def test_a_bad_source_is_a_book_error(self):
        with self.assertRaises(BookError):
            read("no line")


class Apart(ReadTest):
    def test_read_twice_two_books(self):
        text = AHEAD + "b knows v: try w else v; say\n"
        one, other = read(text), read(text)
        before = state(other)
        self.assertEqual(state(one), before)
        one.found("c", ["b"])
        one.teach("a", "new", [])
        one.teach("a", "w", [])
        one.forget("b", "v")
        self.assertEqual(state(other), before)
        self.assertEqual(state(read(text)), before)
        for change in CHANGES:
            for name in other.houses():
                change(other.words(name))
                change(other.order(name))
            change(other.body("b", "v"))
            self.assertEqual(state(other), before)

    def test_a_refused_text_leaves_nothing_behind(self):
        self.bad("house a\na knows w: say\nno line", 3)
        self.alike("house a", built("a"))


# The lines of point 18, once more, as patterns.
NAME = "([a-z]{1,20})"
BARE_STEP = r"[a-z]+(?: (?:[a-z]+|0|-?[1-9][0-9]*))?|try [a-z]+ else [a-z]+"
KNOWS = re.compile(rf" *{NAME} knows {NAME} *:((?: *(?:{BARE_STEP}) *(?:;(?= *[a-z])|(?= *\Z)))*) *")
FORGETS = re.compile(rf" *{NAME} forgets {NAME} *")
HOUSE = re.compile(rf" *house {NAME}(?: under ([a-z]+(?: *, *[a-z]+)*))? *")
PASSED = re.compile(r" *(--.*)?")


def step_by_pattern(text):
    parts = text.replace(" else ", " ").split() if text.startswith("try ") else text.split()
    return tuple(int(part) if part[-1].isdigit() else part for part in parts)


def done_by_patterns(book, line):
    """Whether the line was done."""
    try:
        if ":" in line and (found := KNOWS.fullmatch(line)):
            steps = [step.strip() for step in found[3].split(";")] if found[3].strip() else []
            book.teach(found[1], found[2], [step_by_pattern(step) for step in steps])
            return True
        if found := FORGETS.fullmatch(line):
            return book.forget(found[1], found[2])
        if found := HOUSE.fullmatch(line):
            book.found(found[1], re.findall("[a-z]+", found[2] or ""))
            return True
    except BookError:
        return False
    return False


def read_by_patterns(text):
    """The state of the book, or the number of the first bad line."""
    book = Book()
    for number, line in enumerate(text.removesuffix("\n").split("\n"), 1):
        if not PASSED.fullmatch(line) and not done_by_patterns(book, line):
            return number
    return state(book)


def read_to_state(text):
    try:
        return state(read(text))
    except BadSource as refusal:
        return refusal.line


def line_by_chance(chance, names, words):
    """A line that is right as far as its form goes, with blanks wherever they may stand."""
    blanks = [" " * chance.choice([0, 0, 1, 1, 3]) for place in range(8)]
    name, word = chance.choice(names), chance.choice(words)
    sort = chance.choice(["house", "house", "knows", "knows", "knows", "forgets", ""])
    if sort == "house":
        elders = (blanks[1] + "," + blanks[2]).join(chance.sample(names, chance.randint(0, 3)))
        return f"{blanks[0]}house {name}{' under ' * bool(elders)}{elders}{blanks[3]}"
    if sort == "forgets":
        return f"{blanks[0]}{name} forgets {word}{blanks[1]}"
    if sort == "knows":
        steps = [
            plain_step(chance) if chance.random() < 0.6 else asking_step(chance, words)
            for step in range(chance.randint(0, 4))
        ]
        steps = [" ".join(str(part) for part in step) for step in steps]
        steps = [re.sub(r"\Atry (\w+) ", r"try \1 else ", step) for step in steps]
        row = (blanks[3] + ";" + blanks[4]).join(steps)
        return f"{blanks[0]}{name} knows {word}{blanks[1]}:{blanks[2]}{row}{blanks[5]}"
    return blanks[0] + chance.choice(["", "-- a remark", "--"]) + blanks[1]


def marred(chance, line):
    """The line with one sign put in, taken out, doubled or put in another's place."""
    place = chance.randint(0, max(0, len(line) - 1))
    sign = chance.choice(" ,:;-\t0aw1A")
    return line[:place] + chance.choice([sign, "", line[place:place + 1] * 2, sign + line[place:place + 1]]) + \
        line[place + 1:]


class AgainstPatterns(ReadTest):
    NAMES = ["a", "b", "c", "house", "forgets", "knows", "under"]
    WORDS = ["w", "else", "try", "knows", "forgets"]

    def test_lines_by_chance(self):
        chance = random.Random(71)
        for turn in range(1500):
            lines = ["house " + name for name in chance.sample(self.NAMES, 4)]
            lines += [line_by_chance(chance, self.NAMES, self.WORDS) for line in range(chance.randint(0, 6))]
            text = "\n".join(lines) + chance.choice(["", "\n"])
            self.assertEqual(read_to_state(text), read_by_patterns(text), text)

    def test_marred_lines(self):
        chance = random.Random(72)
        ends = []
        for turn in range(6000):
            line = line_by_chance(chance, self.NAMES, self.WORDS)
            text = AHEAD + chance.choice([line, marred(chance, line), marred(chance, line)])
            ends.append(read_to_state(text))
            self.assertEqual(ends[-1], read_by_patterns(text), text)
        self.assertGreater(ends.count(4), 1000)
        self.assertGreater(len(ends) - ends.count(4), 1000)

    def test_many_good_lines(self):
        chance = random.Random(73)
        for turn in range(60):
            book, lines = Book(), []
            while len(lines) < 40:
                line = line_by_chance(chance, letters(7), self.WORDS)
                if PASSED.fullmatch(line) or done_by_patterns(book, line):
                    lines.append(line)
            self.alike("\n".join(lines), book)
            place = chance.randrange(40)
            self.bad("\n".join(lines[:place] + ["no line"] + lines[place:]), place + 1)


if __name__ == "__main__":
    unittest.main()
