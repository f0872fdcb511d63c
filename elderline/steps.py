"""What counts as a step and as a body; anything may be asked about."""

from elderline.plain import is_amount, is_name, is_whole

# What stands behind the first part of each sort of step.
PARTS = {
    "say": (),
    "put": ("amount",),
    "plus": ("amount",),
    "times": ("amount",),
    "both": ("amount",),
    "any": ("amount",),
    "odd": ("amount",),
    "over": ("divisor",),
    "part": ("divisor",),
    "up": ("shift",),
    "down": ("shift",),
    "onwards": (),
    "ask": ("word",),
    "try": ("word", "word"),
}


def is_body(value):
    return isinstance(value, list) and len(value) <= 30 and all([is_step(step) for step in value])


# The first part may be anything, and not everything can be looked for in a dict, so texts alone are.
def is_step(value):
    if not isinstance(value, tuple) or len(value) == 0 or not isinstance(value[0], str):
        return False
    kinds = PARTS.get(value[0])
    if kinds is None or len(value) != 1 + len(kinds):
        return False
    return all([is_part(part, kind) for part, kind in zip(value[1:], kinds)])


def is_part(part, kind):
    if kind == "word":
        return is_name(part)
    if kind == "shift":
        return is_whole(part, 0, 64)
    if kind == "divisor":
        return is_amount(part) and part != 0
    return is_amount(part)
