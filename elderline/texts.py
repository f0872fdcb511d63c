"""Books read from texts and written as texts, and texts listed with the numbers of their lines."""

from elderline.book import Book
from elderline.errors import BadSource, BookError

# An amount has no more figures than 10 ** 30 has.
MOST_FIGURES = 31


def read(text):
    book = Book()
    for number, line in enumerate(lines_of(text), start=1):
        words = line.strip(" ")
        if words != "" and not words.startswith("--"):
            do_numbered(book, words, number)
    return book


def written(book):
    return "".join([written_house(book, name) for name in book.houses()])


def listed(text):
    lines = lines_of(text)
    width = len(str(len(lines)))
    return ended([str(number).zfill(width) + " " + line for number, line in enumerate(lines, start=1)])


def lines_of(text):
    lines = text.split("\n")
    if lines[-1] == "":
        return lines[:-1]
    return lines


def ended(lines):
    return "".join([line + "\n" for line in lines])


def do_numbered(book, line, number):
    try:
        done = do_line(book, line)
    except BookError as refusal:
        raise BadSource(number) from refusal
    if not done:
        raise BadSource(number)


# This and the two below answer whether there is such a line and it was done.
def do_line(book, line):
    parts = line.split(" ")
    if ":" in line:
        return do_knows(book, line)
    if len(parts) == 3 and parts[1] == "forgets":
        return book.forget(parts[0], parts[2])
    return do_house(book, line)


def do_knows(book, line):
    sides = line.partition(":")
    parts = sides[0].rstrip(" ").split(" ")
    if len(parts) != 3 or parts[1] != "knows":
        return False
    book.teach(parts[0], parts[2], read_body(sides[2]))
    return True


def do_house(book, line):
    sides = [side.strip(" ") for side in line.split(",")]
    parts = sides[0].split(" ")
    if parts[0] == "house" and len(parts) == 2 and len(sides) == 1:
        book.found(parts[1])
        return True
    if parts[0] == "house" and len(parts) == 4 and parts[2] == "under":
        book.found(parts[1], [parts[3]] + sides[1:])
        return True
    return False


def read_body(text):
    if text == "":
        return []
    return [read_step(step.strip(" ")) for step in text.split(";")]


# What is no step is read to a tuple that is none either, and the book refuses the body.
def read_step(text):
    parts = text.split(" ")
    if parts[0] != "try":
        return tuple([parts[0]] + [read_part(part) for part in parts[1:]])
    if len(parts) == 4 and parts[2] == "else":
        return ("try", parts[1], parts[3])
    return ()


def read_part(text):
    return int(text) if is_written_amount(text) else text


# Looked at ahead of int, which takes more than the document does, and fails where figures are very many.
def is_written_amount(text):
    figures = text[1:] if text.startswith("-") else text
    if not 1 <= len(figures) <= MOST_FIGURES or not all(["0" <= sign <= "9" for sign in figures]):
        return False
    return figures[0] != "0" or text == "0"


def written_house(book, name):
    knows = [written_knows(name, word, book.body(name, word)) for word in book.own_words(name)]
    return ended([written_founding(name, book.elders(name))] + knows)


def written_founding(name, elders):
    row = ", ".join(elders)
    return f"house {name} under {row}" if elders else f"house {name}"


def written_knows(name, word, body):
    row = "; ".join([written_step(step) for step in body])
    return f"{name} knows {word}: {row}" if body else f"{name} knows {word}:"


def written_step(step):
    if step[0] == "try":
        return " ".join(["try", step[1], "else", step[2]])
    return " ".join([str(part) for part in step])
