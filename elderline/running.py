"""Rows with their elders left out, run by steps."""

from elderline.errors import Unanswered
from elderline.plain import check_question
from elderline.reckoning import reckoned
from elderline.tallying import Tally, first_place


def run(starts, rows, word, number=0, count=40):
    check_question(number, count)
    running = Running(rows, Tally(count))
    running.entered(first_place(starts, word), number)
    return running.tally.said


# Each method answers the number that is in hand behind what it does.
class Running:
    def __init__(self, rows, tally):
        self.rows = rows
        self.tally = tally

    def entered(self, place, number):
        self.tally.enter()
        for step in self.rows[place]:
            number = self.behind(step, number)
        return number

    def behind(self, step, number):
        if step[0] == "go":
            return self.entered(step[1], number)
        if step[0] == "none":
            raise Unanswered("a none is done")
        if step[0] == "either":
            return self.either(step[1], step[2], number)
        return reckoned(step, number, self.tally.said)

    # The other is done outside the handler, so that its own Unanswered goes on outwards by itself.
    def either(self, one, other, number):
        said_before = len(self.tally.said)
        try:
            return self.behind(one, number)
        except Unanswered:
            self.tally.take_back(said_before)
        return self.behind(other, number)
