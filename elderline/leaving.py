"""A house told with all elders left out: rows of steps that lead to one another by their places."""


# A word's ladder has the places of its bodies, along the order: the first one is
# where the word is asked, and from each the next one is where it is handed on to.
def left_out(book, name):
    ladders = {}
    entries = []
    for house in book.order(name):
        for word in book.own_words(house):
            ladder = ladders.setdefault(word, [])
            ladder.append(len(entries))
            entries.append((word, len(ladder), book.body(house, word)))
    starts = [(word, ladder[0]) for word, ladder in ladders.items()]
    rows = [row_of(body, way(ladders, word, rung), ladders) for word, rung, body in entries]
    return (dict(starts), rows)


def row_of(body, onwards, ladders):
    return [without_elders(step, onwards, ladders) for step in body]


def without_elders(step, onwards, ladders):
    if step[0] == "onwards":
        return onwards
    if step[0] == "ask":
        return way(ladders, step[1], 0)
    if step[0] == "try":
        return ("either", way(ladders, step[1], 0), way(ladders, step[2], 0))
    return step


def way(ladders, word, rung):
    ladder = ladders.get(word, [])
    if rung < len(ladder):
        return ("go", ladder[rung])
    return ("none",)
