"""Rows with their elders left out, run as woven functions: what a step is, is looked at once, ahead of the run."""

from elderline.errors import Unanswered
from elderline.plain import check_question
from elderline.reckoning import reckoned
from elderline.tallying import Tally, first_place


# Every woven function takes the number in hand and answers the one that is in hand behind it.
def woven_run(starts, rows, word, number=0, count=40):
    check_question(number, count)
    place = first_place(starts, word)
    tally = Tally(count)
    woven = []
    for row in rows:
        woven.append(woven_row(row, woven, tally))
    woven[place](number)
    return tally.said


def woven_row(row, woven, tally):
    parts = [woven_step(step, woven, tally) for step in row]

    def done(number):
        tally.enter()
        for part in parts:
            number = part(number)
        return number

    return done


# A row may lead to itself and to rows that are woven later, so a go looks for its row only when it is done.
def woven_step(step, woven, tally):
    if step[0] == "go":
        return lambda number: woven[step[1]](number)
    if step[0] == "none":
        return unanswered
    if step[0] == "either":
        one = woven_step(step[1], woven, tally)
        other = woven_step(step[2], woven, tally)
        return woven_either(one, other, tally)
    return lambda number: reckoned(step, number, tally.said)


def unanswered(number):
    raise Unanswered("a none is done")


# The other is done outside the handler, so that its own Unanswered goes on outwards by itself.
def woven_either(one, other, tally):
    def done(number):
        said_before = len(tally.said)
        try:
            return one(number)
        except Unanswered:
            tally.take_back(said_before)
        return other(number)

    return done
