"""A book of houses, with their elders, their orders and the words that they were taught."""

from elderline.errors import BadBody, BadText, Doubled, Founded, Unfounded
from elderline.making import made_order
from elderline.plain import is_name
from elderline.steps import is_body


class House:
    def __init__(self, elder_row, order_row):
        self.elder_row = elder_row
        self.order_row = order_row
        self.bodies = {}


# Lists are copied on their way in and on their way out: what the asker
# does with his own must not reach into the book.
class Book:
    def __init__(self):
        self.by_name = {}

    def found(self, name, elders=None):
        if not is_name(name):
            raise BadText("a name has 1 to 20 small letters")
        if name in self.by_name:
            raise Founded(f"{name} is founded already")
        elder_row = [] if elders is None else list(elders)
        orders = [self.order(elder) for elder in elder_row]
        if len(set(elder_row)) < len(elder_row):
            raise Doubled(f"an elder of {name} stands twice")
        self.by_name[name] = House(elder_row, made_order(name, elder_row, orders))

    def houses(self):
        return list(self.by_name)

    def order(self, name):
        return list(self.house(name).order_row)

    def elders(self, name):
        return list(self.house(name).elder_row)

    def words(self, name):
        known = {}
        for forebear in self.house(name).order_row:
            for word in self.house(forebear).bodies:
                known[word] = True
        return list(known)

    def own_words(self, name):
        return list(self.house(name).bodies)

    # A dict keeps a key's place when its value is set anew, as a word taught anew must.
    def teach(self, name, word, body):
        house = self.house(name)
        if not is_name(word):
            raise BadText("a word has 1 to 20 small letters")
        if not is_body(body):
            raise BadBody("a body is a list of 0 to 30 steps")
        house.bodies[word] = list(body)

    def forget(self, name, word):
        bodies = self.house(name).bodies
        if word not in bodies:
            return False
        bodies.pop(word)
        return True

    def body(self, name, word):
        bodies = self.house(name).bodies
        if word not in bodies:
            return None
        return list(bodies[word])

    def house(self, name):
        if name not in self.by_name:
            raise Unfounded(f"{name!r} is no house")
        return self.by_name[name]
