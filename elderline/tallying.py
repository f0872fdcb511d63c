"""What every way of running keeps alike: how much may still be entered, and what was said."""

from elderline.errors import Spent, Unanswered


# What was said is asked for anew each time, not kept: taking back puts another list in its place.
class Tally:
    def __init__(self, left):
        self.left = left
        self.said = []

    def enter(self):
        if self.left == 0:
            raise Spent("no more may be entered")
        self.left = self.left - 1

    # What was entered stays counted.
    def take_back(self, length):
        self.said = self.said[:length]


def first_place(starts, word):
    if word not in starts:
        raise Unanswered("the word leads to no row")
    return starts[word]
