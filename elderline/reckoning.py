"""What a step that enters no body does with the number in hand."""


# Answers the number that is in hand behind the step; what the step says goes
# to the end of said, so that whoever does the steps can take it back.
def reckoned(step, number, said):
    if step[0] == "say":
        said.append(number)
        return number
    if step[0] == "part":
        said.append(number % step[1])
        return number // step[1]
    return changed(number, step[0], step[1])


def changed(number, sort, amount):
    if sort == "put":
        return amount
    if sort == "plus":
        return number + amount
    if sort == "times":
        return number * amount
    if sort == "over":
        return number // amount
    if sort == "both":
        return number & amount
    if sort == "any":
        return number | amount
    if sort == "odd":
        return number ^ amount
    if sort == "up":
        return number << amount
    return number >> amount
