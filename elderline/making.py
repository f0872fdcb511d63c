"""How the order of a house is made out of those of its elders."""

from elderline.merging import merged


def made_order(name, elders, orders):
    return [name] + merged(orders + [elders], elders + [name])
