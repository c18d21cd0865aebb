"""Texts of scripts read once more, line by line with patterns: which line is the first wrong one.

It is written apart from the package, for comparison.
"""

import re

KEYWORDS = (
    "tape|size|index|to|procedure|end|if|else|repeat|do|one|two|chooses|from|wins|is|equals|empty|has|not|up|down|n")
NAME = r"(?!(?:" + KEYWORDS + r")(?![a-z0-9_]))[a-z][a-z0-9_]{0,11}(?![a-z0-9_])"
CELL = NAME + r"\[" + NAME + r"\]"
LETTERS = "".join(sign + "?" for sign in "abcdefghijklmnopqrstuvwxyz") + "(?<=[a-z])"
COUNT = r"(?:[1-9][0-9]*)"
PRODUCT = r"(?:(?!1\*)" + COUNT + r"\*)?n(?:\^(?!1(?![0-9]))" + COUNT + r")?"
ITEM = r"(?:" + PRODUCT + r"|" + COUNT + r")"
POLY = r"(?:0|" + ITEM + r"(?: \+ " + ITEM + r")*)"
TEST = r"(?:not )*(?:" + "|".join(
    [CELL + " is [a-z]", CELL + " equals " + CELL, CELL + " empty", NAME + " has " + NAME, NAME + " = " + NAME]) + r")"
PLAIN = r"(?:" + "|".join(
    [CELL + " = [a-z]", CELL + " = " + CELL, CELL + " = empty", NAME + " = 0", "up " + NAME, "down " + NAME,
     NAME + " = " + NAME, "do " + NAME, "(?:one|two) chooses " + CELL + " from " + LETTERS, "(?:one|two) wins"]) + r")"


def is_falling(poly):
    """Return whether the exponents of the items of a polynomial's text fall."""
    if poly == "0":
        return True
    exponents = [0 if "n" not in item else int((item.partition("^")[2]) or "1") for item in poly.split(" + ")]
    return all(one > two for one, two in zip(exponents, exponents[1:]))


def poly_in(pattern, line):
    """Return whether a line has a pattern around a polynomial."""
    found = re.fullmatch(pattern.replace("POLY", "(" + POLY + ")"), line)
    return found is not None and is_falling(found.group(1))


def sort_of(line):
    """Return what a line without blanks at its beginning is, None if it is nothing."""
    if line in ("end", "else"):
        return line
    for sort, pattern in (("tape", "tape " + NAME + " size POLY"), ("index", "index " + NAME + " to POLY"),
                          ("repeat", "repeat POLY")):
        if poly_in(pattern, line):
            return sort
    for sort, pattern in (("procedure", "procedure " + NAME), ("if", "if " + TEST), ("plain", PLAIN)):
        if re.fullmatch(pattern, line):
            return sort
    return None


def after_line(state, line):
    """Return the state after a line, None if the line cannot follow. A state is the part and the open words."""
    part, opened = state
    sort = sort_of(line)
    if opened == ():
        order = ("tape", "index", "procedure")
        if sort not in order or order.index(sort) < part:
            return None
        return (order.index(sort), ("procedure",) if sort == "procedure" else ())
    if sort == "end":
        return (part, opened[:-1])
    if sort == "else":
        return (part, opened[:-1] + ("else",)) if opened[-1] == "if" else None
    if sort in ("if", "repeat"):
        return (part, opened + (sort,))
    return state if sort == "plain" else None


def first_wrong(text):
    """Return the number that BadText has to carry for a string, None if the string can be read."""
    state = (0, ())
    lines = text.split("\n")
    for at, line in enumerate(lines):
        bare = line.lstrip(" ")
        if bare:
            state = after_line(state, bare)
            if state is None:
                return at + 1
    return len(lines) + 1 if state[1] else None


def tidied(text):
    """Return a text that can be read as it would be written."""
    lines = []
    margin = ""
    for line in text.split("\n"):
        bare = line.lstrip(" ")
        if bare in ("end", "else"):
            margin = margin[2:]
        if bare == "end" and lines[-1] == margin + "else":
            lines.pop()
        if bare:
            lines.append(margin + bare)
        if bare == "else" or sort_of(bare) in ("procedure", "if", "repeat"):
            margin = margin + "  "
    return "\n".join(lines)
