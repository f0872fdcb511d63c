"""A house that is asked a word, with its elders in the book."""

from elderline.errors import Unanswered
from elderline.plain import check_question
from elderline.reckoning import reckoned
from elderline.tallying import Tally


def answered(book, name, word, number=0, count=40):
    row = book.order(name)
    check_question(number, count)
    asking = Asking(book, row, Tally(count))
    asking.asked(word, 0, number)
    return asking.tally.said


# One question from its start to its end. The row is the order of the house that was asked
# at the first. Each method answers the number that is in hand behind what it does.
class Asking:
    def __init__(self, book, row, tally):
        self.book = book
        self.row = row
        self.tally = tally

    # The houses ahead of the place are passed over: that is how a word is handed on.
    def asked(self, word, place, number):
        for index in range(place, len(self.row)):
            body = self.book.body(self.row[index], word)
            if body is not None:
                return self.entered(body, word, index, number)
        raise Unanswered("no house of the order knows the word")

    def entered(self, body, word, index, number):
        self.tally.enter()
        for step in body:
            number = self.behind(step, word, index, number)
        return number

    def behind(self, step, word, index, number):
        if step[0] == "onwards":
            return self.asked(word, index + 1, number)
        if step[0] == "ask":
            return self.asked(step[1], 0, number)
        if step[0] == "try":
            return self.tried(step[1], step[2], number)
        return reckoned(step, number, self.tally.said)

    # The other word is asked outside the handler, so that its own Unanswered goes on outwards by itself.
    def tried(self, word, other, number):
        said_before = len(self.tally.said)
        try:
            return self.asked(word, 0, number)
        except Unanswered:
            self.tally.take_back(said_before)
        return self.asked(other, 0, number)
