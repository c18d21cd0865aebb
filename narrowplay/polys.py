"""Polynomials, their texts, and words."""

from narrowplay.basics import is_ascending, is_integer, is_letter
from narrowplay.errors import BadNumber, BadPoly, BadText


def is_word(thing):
    """Return whether any value is a word."""
    return isinstance(thing, str) and all(is_letter(sign) for sign in thing)


def is_poly(thing):
    """Return whether any value is a polynomial."""
    if not isinstance(thing, tuple) or not all(is_pair(pair) for pair in thing):
        return False
    return is_ascending([pair[0] for pair in thing])


def is_pair(thing):
    """Return whether any value is a pair of an exponent and a coefficient."""
    if not isinstance(thing, tuple) or len(thing) != 2:
        return False
    exponent, coefficient = thing
    if not is_integer(exponent) or not is_integer(coefficient):
        return False
    return exponent >= 0 and coefficient >= 1


def value_at(poly, number):
    """Return the value of a polynomial at an integer from 0 on."""
    if not is_poly(poly):
        raise BadPoly(poly)
    if not is_integer(number) or number < 0:
        raise BadNumber(number)
    return sum([coefficient * power_of(number, exponent) for exponent, coefficient in poly])


def power_of(number, exponent):
    """Return number to the power of exponent, 1 for the exponent 0."""
    power = 1
    square = number
    left = exponent
    while left > 0:
        if left % 2 == 1:
            power = power * square
        square = square * square
        left = left // 2
    return power


def sum_of(poly, other):
    """Return the sum of two polynomials."""
    check_both(poly, other)
    return gathered(list(poly) + list(other))


def product_of(poly, other):
    """Return the product of two polynomials."""
    check_both(poly, other)
    return gathered([(one[0] + two[0], one[1] * two[1]) for one in poly for two in other])


def check_both(poly, other):
    """Raise the error for the first of two values that is not a polynomial."""
    if not is_poly(poly):
        raise BadPoly(poly)
    if not is_poly(other):
        raise BadPoly(other)


def gathered(pairs):
    """Return the polynomial that is the sum of pairs in any order, with any exponent several times."""
    totals = {}
    for exponent, coefficient in pairs:
        totals[exponent] = totals.get(exponent, 0) + coefficient
    return tuple(sorted(totals.items()))


def constant(number):
    """Return the polynomial that has everywhere an integer from 0 on as its value."""
    return ((0, number),) if number > 0 else ()


def poly_text(poly):
    """Return the text of a polynomial."""
    if not is_poly(poly):
        raise BadPoly(poly)
    if not poly:
        return "0"
    return " + ".join([pair_text(exponent, coefficient) for exponent, coefficient in reversed(poly)])


def pair_text(exponent, coefficient):
    """Return the text of one pair of a polynomial."""
    if exponent == 0:
        return str(coefficient)
    power = "n" if exponent == 1 else f"n^{exponent}"
    return power if coefficient == 1 else f"{coefficient}*{power}"


def poly_read(text):
    """Return the polynomial with a text."""
    if not isinstance(text, str):
        raise BadText(0)
    poly = poly_or_none(text)
    if poly is None:
        raise BadText(1)
    return poly


def poly_or_none(text):
    """Return the polynomial with a text, None if a string is no such text."""
    if text == "0":
        return ()
    pairs = [pair_read(item) for item in text.split(" + ")]
    poly = tuple(reversed(pairs))
    return poly if is_poly(poly) else None


def pair_read(item):
    """Return the pair with a text; of another string something that is no pair."""
    if "n" not in item:
        return (0, numeral_read(item))
    front, star, power = item.rpartition("*")
    if not star:
        return (exponent_read(power), 1)
    coefficient = numeral_read(front)
    # A coefficient of 1 is left out, so that it is as wrong here as no numeral at all.
    return (exponent_read(power), coefficient if coefficient > 1 else 0)


def exponent_read(power):
    """Return the exponent of a text n, or n^ and an exponent above 1; -1 for another string."""
    if power == "n":
        return 1
    exponent = numeral_read(power[2:]) if power.startswith("n^") else 0
    return exponent if exponent > 1 else -1


def numeral_read(text):
    """Return the integer from 1 on that is written, 0 if a string does not write one."""
    if text.startswith("0") or not all(sign in "0123456789" for sign in text):
        return 0
    # Not by int: Python refuses to read more than 4300 digits with it.
    number = 0
    for sign in text:
        number = number * 10 + ord(sign) - ord("0")
    return number
