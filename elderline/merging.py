"""Rows of names merged into one row, or a ring of leanings where they are at odds."""

from elderline.errors import AtOdds


# The rows are the asker's and stay as they are: a name is taken out by
# moving the place at which what is left of a row starts.
def merged(rows, labels):
    starts = [0 for row in rows]
    behind = counts_behind(rows)
    joined = []
    name = free_name(rows, starts, behind)
    while name is not None:
        joined.append(name)
        take_out(name, rows, starts, behind)
        name = free_name(rows, starts, behind)
    rests = [row[start:] for row, start in zip(rows, starts)]
    if any(rests):
        raise AtOdds(ring_of(rests, labels))
    return joined


# Counted once and kept up to date, so that long rows are not searched anew for each name.
def counts_behind(rows):
    behind = {}
    for row in rows:
        for name in row[1:]:
            behind[name] = behind.get(name, 0) + 1
    return behind


def free_name(rows, starts, behind):
    for row, start in zip(rows, starts):
        if start < len(row) and behind.get(row[start], 0) == 0:
            return row[start]
    return None


# A name that is taken stands behind no first place, so only the first places are looked at.
def take_out(name, rows, starts, behind):
    for index, row in enumerate(rows):
        start = starts[index]
        if start < len(row) and row[start] == name:
            starts[index] = start + 1
            if start + 1 < len(row):
                behind[row[start + 1]] = behind[row[start + 1]] - 1


# Where no name is free, each first name stands behind another first name. Going from
# one to the next must come back to a name met before, and what lies between is the ring.
def ring_of(rests, labels):
    met = {}
    path = []
    name = first_name(rests)
    while name not in met:
        met[name] = len(path)
        path.append(leaning_against(name, rests, labels))
        name = path[-1][0]
    return list(reversed(path[met[name]:]))


def first_name(rests):
    return [rest[0] for rest in rests if rest][0]


def leaning_against(name, rests, labels):
    return [(rest[0], name, label) for rest, label in zip(rests, labels) if name in rest[1:]][0]
