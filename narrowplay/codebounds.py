"""Bounds of code, read off its rows."""

from narrowplay.bodies import insides
from narrowplay.code import check_code
from narrowplay.polys import constant, product_of, sum_of

ONE = ((0, 1),)


def code_clock(code):
    """Return the bound of the steps of a run."""
    return main_bounds(code)[0]


def code_choices(code):
    """Return the bound of the choices in a run."""
    return main_bounds(code)[1]


def code_depth(code):
    """Return the depth of the main routine."""
    return main_bounds(code)[2]


def code_cells(code):
    """Return the bound of the cells that are held."""
    _, picks, depth = main_bounds(code)
    tapes, indexes, _ = code
    total = sum_of(constant(len(indexes) + depth), picks)
    for size in tapes:
        total = sum_of(total, size)
    return total


def main_bounds(code):
    """Return the triple of the clock, the choices and the depth of the main routine."""
    check_code(code)
    known = []
    for routine in code[2]:
        known.append(routine_bounds(routine, known))
    return known[-1] if known else ((), (), 0)


def routine_bounds(routine, known):
    """Return the triple of the clock, the choices and the depth of a routine; known has those of the earlier ones."""
    inside = insides(routine)
    weights = row_weights(routine, inside)
    steps = ()
    picks = ()
    depth = 0
    for at, row in enumerate(routine):
        steps = sum_of(steps, weights[at])
        deep = len(inside[at])
        if row[0] == "choose":
            picks = sum_of(picks, weights[at])
        elif row[0] == "call":
            by_steps, by_picks, by_depth = known[row[1]]
            steps = sum_of(steps, product_of(weights[at], by_steps))
            picks = sum_of(picks, product_of(weights[at], by_picks))
            deep = deep + 1 + by_depth
        depth = max(depth, deep)
    return (steps, picks, depth)


def row_weights(routine, inside):
    """Return the list of the weights of the rows."""
    # Rows inside the same repeats share their weight, which then is multiplied once only.
    known = {}
    for repeats in inside:
        if repeats not in known:
            known[repeats] = weight_of(routine, repeats)
    return [known[repeats] for repeats in inside]


def weight_of(routine, repeats):
    """Return the product of the polynomials of some repeats."""
    weight = ONE
    for at in repeats:
        weight = product_of(weight, routine[at][1])
    return weight
