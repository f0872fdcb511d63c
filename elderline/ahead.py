"""How each row with its elders left out ends, and with what count, told without running it."""

NEVER = ("never", 0)


def told_ahead(rows):
    ends = {}
    for place in range(len(rows)):
        if place not in ends:
            tell_end(place, rows, ends)
    return [ends[place] for place in range(len(rows))]


# The pile holds rows each of which leads to the next one; a call within a call would go too deep
# for long ways. Each counts as never until it is told: a row that leads to it meanwhile is one
# that it comes to itself, so it comes round to itself again and again, as does the whole pile.
def tell_end(place, rows, ends):
    pile = [place]
    while pile:
        ends[pile[-1]] = NEVER
        end = end_of_row(rows[pile[-1]], ends)
        if end[0] == "needs":
            pile.append(end[1])
        else:
            ends[pile.pop()] = end


# ("needs", place) stands for an end that can't be told before that of the row at the place.
def end_of_row(row, ends):
    count = 1
    for step in row:
        end = end_of_step(step, ends)
        if end[0] == "answers":
            count = count + end[1]
        else:
            return end_behind(count, end)
    return ("answers", count)


# How something ends that counts so much ahead of its last part, by how that part ends.
def end_behind(count, last):
    if last[0] in ("needs", "never"):
        return last
    return (last[0], count + last[1])


def end_of_step(step, ends):
    if step[0] == "go":
        return ends.get(step[1], ("needs", step[1]))
    if step[0] == "none":
        return ("unanswered", 0)
    if step[0] == "either":
        return end_of_either(step[1], step[2], ends)
    return ("answers", 0)


def end_of_either(one, other, ends):
    first = end_of_step(one, ends)
    if first[0] != "unanswered":
        return first
    return end_behind(first[1], end_of_step(other, ends))
