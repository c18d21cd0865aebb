"""Trees of plays: who wins from picks, and plans.

What is passed as plays has a method told that returns for picks to what the play with them comes: a tuple
that begins with "won" and the player, or with "asks", the player and the letters, or with "wrong".
"""


def best(plays, picks):
    """Return the pair of the player who wins from picks of the tree, and a plan of this player from there."""
    told = plays.told(picks)
    if told[0] == "won":
        return (told[1], ("end",))
    chooser = told[1]
    plans = []
    for letter in told[2]:
        player, plan = best(plays, picks + letter)
        if player == chooser:
            return (player, ("pick", letter, plan))
        plans.append(plan)
    return (player, ("all", tuple(plans)))


def ends(plays, picks):
    """Return the list of the pairs (picks, player) of all plays that go on from picks of the tree."""
    told = plays.told(picks)
    if told[0] == "won":
        return [(picks, told[1])]
    found = []
    for letter in told[2]:
        found.extend(ends(plays, picks + letter))
    return found


def is_plan(plays, picks, player, thing):
    """Return whether any value is a plan of a player from picks of the tree."""
    told = plays.told(picks)
    if told[0] == "won":
        return told[1] == player and thing == ("end",)
    if told[1] == player:
        return is_one_pick(thing, told[2]) and is_plan(plays, picks + thing[1], player, thing[2])
    if not is_begun(thing, "all", 2) or not isinstance(thing[1], tuple) or len(thing[1]) != len(told[2]):
        return False
    return all(is_plan(plays, picks + letter, player, plan) for letter, plan in zip(told[2], thing[1]))


def is_one_pick(thing, letters):
    """Return whether any value is a triple like a "pick" with one of the letters."""
    if not is_begun(thing, "pick", 3) or not isinstance(thing[1], str):
        return False
    return len(thing[1]) == 1 and thing[1] in letters


def is_begun(thing, word, many):
    """Return whether any value is a tuple of so many items that begins with a word."""
    return isinstance(thing, tuple) and len(thing) == many and thing[0] == word
