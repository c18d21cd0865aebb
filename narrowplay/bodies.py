"""Bodies of the repeats in a routine of code."""


def matched(routine):
    """Return a dict that gives for the row of each matched repeat the row that is matched with it."""
    ends = {}
    for at, row in enumerate(routine):
        if row[0] == "repeat" and at < row[2] < len(routine) and routine[row[2]] == ("again", at):
            ends[at] = row[2]
    return ends


def insides(routine):
    """Return a list that has for each row, and for the end, the ascending tuple of the repeats inside which it is."""
    ends = matched(routine)
    found = []
    opened = ()
    for at in range(len(routine) + 1):
        found.append(opened)
        opened = tuple([repeat for repeat in opened if ends[repeat] > at])
        if at in ends:
            opened = opened + (at,)
    return found
