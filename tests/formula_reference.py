"""Quantified formulas once more, written apart from the package, and formulas that are drawn."""

import itertools
import random


def fillings(many):
    return ["".join(letters) for letters in itertools.product("ft", repeat=many)]


def truth(matrix, filling):
    """Return the value of a matrix, by Python's own words."""
    return bool(eval(python(matrix), {"v": [letter == "t" for letter in filling]}))


def python(matrix):
    if matrix[0] == "v":
        return f"v[{matrix[1]}]"
    if matrix[0] == "not":
        return f"(not {python(matrix[1])})"
    return f"({python(matrix[1])} {matrix[0]} {python(matrix[2])})"


def values(formula):
    """Return the values of a formula for all fillings of its first variables, from the longest to the empty one."""
    prefix, matrix = formula
    found = {filling: truth(matrix, filling) for filling in fillings(len(prefix))}
    for many in range(len(prefix) - 1, -1, -1):
        for filling in fillings(many):
            both = (found[filling + "f"], found[filling + "t"])
            found[filling] = any(both) if prefix[many] == "e" else all(both)
    return found


def size(matrix):
    """Return how many matrices a matrix consists of."""
    return 1 if matrix[0] == "v" else 1 + sum(size(part) for part in matrix[1:])


class FormulaDrawing:

    def __init__(self, seed):
        self.random = random.Random(seed)

    def matrix(self, many, most, deep):
        """Return a matrix of at most so many matrices, nested at most so deep."""
        word = self.random.choice(["v", "not", "and", "or", "and", "or"])
        if word == "v" or deep == 1 or most < 3:
            return ("v", self.random.randrange(many))
        if word == "not":
            return ("not", self.matrix(many, most - 1, deep - 1))
        left = self.matrix(many, most - 2, deep - 1)
        return (word, left, self.matrix(many, most - 1 - size(left), deep - 1))

    def formula(self, many=None):
        many = many or self.random.randint(1, 8)
        prefix = "".join(self.random.choice("ea") for _ in range(many))
        return (prefix, self.matrix(many, self.random.randint(1, 40), 10))


def drawn_formulas(seeds, many=None):
    return [FormulaDrawing(seed).formula(many) for seed in seeds]
