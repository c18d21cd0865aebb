"""Kinds of values that many parts of the package ask for."""

ALPHABET = "abcdefghijklmnopqrstuvwxyz"


def is_integer(thing):
    """Return whether any value is an integer; a bool is none."""
    return isinstance(thing, int) and not isinstance(thing, bool)


def is_letter(thing):
    """Return whether any value is one of the small letters, as a string."""
    return isinstance(thing, str) and len(thing) == 1 and "a" <= thing <= "z"


def is_ascending(items):
    """Return whether items that can be compared are sorted, without duplicates."""
    return all(items[at] < items[at + 1] for at in range(len(items) - 1))
