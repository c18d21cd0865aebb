"""Code: its shape, and which code is accepted."""

from narrowplay.basics import is_integer
from narrowplay.bodies import insides, matched
from narrowplay.errors import BadCode, BadShape
from narrowplay.polys import is_poly
from narrowplay.scripts import COMMANDS, TESTS, first_word, is_part

INPUT_SIZE = ((1, 1),)
# The words of rows that have the same parts as the commands, with numbers in place of names.
PLAIN = ("set", "copy", "clear", "zero", "up", "down", "same", "choose", "wins")
# The kinds of the parts that follow the first word of each other row.
OTHERS = {
    "jump": ("row",),
    "unless": ("test", "row"),
    "repeat": ("poly", "row"),
    "again": ("row",),
    "call": ("routine",),
}


def is_code(thing):
    """Return whether any value is code."""
    if not isinstance(thing, tuple) or len(thing) != 3 or not all(isinstance(part, tuple) for part in thing):
        return False
    tapes, indexes, routines = thing
    if not all(is_poly(poly) for poly in tapes + indexes) or tapes[:1] != (INPUT_SIZE,):
        return False
    return all(is_routine(routine) for routine in routines)


def is_routine(thing):
    """Return whether any value is a tuple of rows."""
    return isinstance(thing, tuple) and all(is_row(row) for row in thing)


def is_row(thing):
    """Return whether any value is a row."""
    kinds = row_kinds(first_word(thing))
    return kinds is not None and are_row_parts(thing[1:], kinds)


def row_kinds(word):
    """Return the kinds of the parts of the rows that begin with a word, None if no row begins with it."""
    return COMMANDS[word] if word in PLAIN else OTHERS.get(word)


def is_row_test(thing):
    """Return whether any value is a test with numbers in place of names."""
    test = test_within(thing)
    kinds = TESTS.get(first_word(test))
    return kinds is not None and are_row_parts(test[1:], kinds)


def test_within(thing):
    """Return what is left of any value without each "not" around it."""
    while first_word(thing) == "not" and len(thing) == 2:
        thing = thing[1]
    return thing


def are_row_parts(parts, kinds):
    """Return whether there is one part of each kind, in order, with numbers in place of names."""
    if len(parts) != len(kinds):
        return False
    return all(is_row_part(part, kind) for part, kind in zip(parts, kinds))


def is_row_part(thing, kind):
    """Return whether any value is a part of a kind in a row."""
    if kind == "test":
        return is_row_test(thing)
    if kind in ("letter", "letters", "player", "poly"):
        return is_part(thing, kind)
    return is_integer(thing) and thing >= 0


def is_accepted(thing):
    """Return whether any value is code that is accepted."""
    return is_code(thing) and certificate(thing) == ("accepted",)


def judge_code(shape):
    """Return the certificate for code."""
    if not is_code(shape):
        raise BadShape(shape)
    return certificate(shape)


def code_holds(shape, thing):
    """Return whether any value is the certificate for code."""
    if judge_code(shape) != thing:
        return False
    # True is equal to 1, but no number.
    return not any(isinstance(item, bool) for item in thing)


def check_code(code):
    """Raise the error for a value that is not code that is accepted."""
    if not is_accepted(code):
        raise BadCode(code)


def certificate(code):
    """Return the certificate for what is known to be code."""
    for number, routine in enumerate(code[2]):
        ends = matched(routine)
        inside = insides(routine)
        for at, row in enumerate(routine):
            if has_wrong_number(row[1:], row_kinds(row[0]), code, number):
                return ("refused", number, at, "number")
            if writes_to_input(row):
                return ("refused", number, at, "input")
            if breaks_loop(row, at, ends, inside):
                return ("refused", number, at, "loop")
            if jumps_wrongly(row, at, inside):
                return ("refused", number, at, "jump")
    return ("accepted",)


def has_wrong_number(parts, kinds, code, number):
    """Return whether a tape, an index or a routine among the parts may not be named in a routine of code."""
    # For each kind of number the one that it has to be below.
    limits = {"tape": len(code[0]), "index": len(code[1]), "routine": number}
    for part, kind in zip(parts, kinds):
        if kind == "test":
            test = test_within(part)
            if has_wrong_number(test[1:], TESTS[test[0]], code, number):
                return True
        elif kind in limits and part >= limits[kind]:
            return True
    return False


def writes_to_input(row):
    """Return whether a row writes to tape 0."""
    if row[0] == "choose":
        return row[2] == 0
    return row[0] in ("set", "copy", "clear") and row[1] == 0


def breaks_loop(row, at, ends, inside):
    """Return whether a row, the one at a number, is a repeat or an again that makes no proper loop."""
    if row[0] == "again":
        return ends.get(row[1]) != at
    if row[0] != "repeat":
        return False
    # The bodies of two repeats cross each other if the later one begins within the other one and ends behind it.
    return at not in ends or any(ends[other] < ends[at] for other in inside[at])


def jumps_wrongly(row, at, inside):
    """Return whether a row, the one at a number, goes on at a row that it may not go to."""
    if row[0] not in ("jump", "unless"):
        return False
    # There is one item more in inside than there are rows, for the end.
    return row[-1] <= at or row[-1] >= len(inside) or inside[row[-1]] != inside[at]
