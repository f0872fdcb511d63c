"""What counts as a text, as a name or word, and as a number; anything may be asked about."""

from elderline.errors import BadCount, BadNumber


def is_text(value):
    return isinstance(value, str) and all([sign == "\n" or " " <= sign <= "~" for sign in value])


# Words are made like names, so this one serves both.
def is_name(value):
    return isinstance(value, str) and 1 <= len(value) <= 20 and all(["a" <= sign <= "z" for sign in value])


# Python counts True and False among the whole numbers, the document does not.
def is_whole(value, least, most):
    return isinstance(value, int) and not isinstance(value, bool) and least <= value <= most


# Inputs have the same bounds as amounts, so this one serves both.
def is_amount(value):
    return is_whole(value, -10 ** 30, 10 ** 30)


# Every way of running refuses the number and the count alike, and in this order.
def check_question(number, count):
    if not is_amount(number):
        raise BadNumber("an input is a whole number from -10 ** 30 to 10 ** 30")
    if not is_whole(count, 0, 40):
        raise BadCount("a count is a whole number from 0 to 40")
