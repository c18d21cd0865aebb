"""Quantified formulas, their values, and programs that play them."""

from narrowplay.basics import is_integer
from narrowplay.errors import BadFilling, BadFormula
from narrowplay.frames import program_in
from narrowplay.scripts import first_word

# How many matrices are the parts of a matrix, by its word; a variable is missing, as its part is a number.
PARTS = {"not": 1, "and": 2, "or": 2}
# Each variable has a tape of one cell, so that no index is moved.
FRAME = """
TAPES
tape result size 1
index zero to 0
procedure main
  CHOICES
  MATRIX
  if result[zero] is t
    one wins
  end
end
"""


def is_formula(thing):
    """Return whether any value is a formula."""
    if not isinstance(thing, tuple) or len(thing) != 2:
        return False
    prefix, matrix = thing
    return is_made_of(prefix, "ea") and is_matrix(matrix, len(prefix))


def is_made_of(thing, letters):
    """Return whether any value is a string in which there are no signs but some letters."""
    return isinstance(thing, str) and all(sign in letters for sign in thing)


def is_matrix(thing, many):
    """Return whether any value is a matrix with so many variables."""
    word = first_word(thing)
    if word == "v":
        return len(thing) == 2 and is_integer(thing[1]) and 0 <= thing[1] < many
    if word not in PARTS or len(thing) != 1 + PARTS[word]:
        return False
    return all(is_matrix(part, many) for part in thing[1:])


def check_formula(formula):
    """Raise the error for a value that is not a formula."""
    if not is_formula(formula):
        raise BadFormula(formula)


def matrix_value(formula, filling):
    """Return whether the matrix has the value true for a filling of all variables."""
    check_formula(formula)
    if not is_made_of(filling, "ft") or len(filling) != len(formula[0]):
        raise BadFilling(filling)
    return is_true(formula[1], filling)


def value_after(formula, filling):
    """Return whether a formula has the value true for a filling of the first variables."""
    check_formula(formula)
    if not is_made_of(filling, "ft") or len(filling) > len(formula[0]):
        raise BadFilling(filling)
    return is_true_after(formula, filling)


def formula_value(formula):
    """Return whether a formula has the value true."""
    check_formula(formula)
    return is_true_after(formula, "")


def is_true_after(formula, filling):
    """Return whether what is known to be a formula has the value true for a filling of the first variables."""
    prefix, matrix = formula
    if len(filling) == len(prefix):
        return is_true(matrix, filling)
    if prefix[len(filling)] == "e":
        return any(is_true_after(formula, filling + letter) for letter in "ft")
    return all(is_true_after(formula, filling + letter) for letter in "ft")


def is_true(matrix, filling):
    """Return whether a matrix has the value true for a filling of all variables."""
    match matrix:
        case ("v", number):
            return filling[number] == "t"
        case ("not", inner):
            return not is_true(inner, filling)
        case ("and", left, right):
            return is_true(left, filling) and is_true(right, filling)
    return is_true(matrix[1], filling) or is_true(matrix[2], filling)


def denial(formula):
    """Return the formula that has the other value."""
    check_formula(formula)
    prefix, matrix = formula
    return ("".join(["a" if letter == "e" else "e" for letter in prefix]), ("not", matrix))


def is_at_most(formula, other):
    """Return whether a formula is at most another one with as many variables."""
    check_formula(formula)
    check_formula(other)
    if len(formula[0]) != len(other[0]):
        raise BadFormula(other)
    if any(mine == "e" and its == "a" for mine, its in zip(formula[0], other[0])):
        return False
    every = fillings(len(formula[0]))
    return all(is_true(other[1], filling) for filling in every if is_true(formula[1], filling))


def fillings(many):
    """Return all fillings of so many variables."""
    found = [""]
    for _ in range(many):
        found = [filling + letter for filling in found for letter in "ft"]
    return found


def formula_program(formula):
    """Return a program in which the players fill the variables, and one wins if this makes the matrix true."""
    check_formula(formula)
    prefix, matrix = formula
    names = [f"v{number}" for number in range(len(prefix))]
    tapes = [f"tape {name} size 1" for name in names]
    choices = [f"{player_of(letter)} chooses {name}[zero] from ft" for name, letter in zip(names, prefix)]
    return program_in(FRAME, {
        "TAPES": "\n".join(tapes),
        "CHOICES": "\n".join(choices),
        "MATRIX": "\n".join(matrix_lines(matrix)),
    })


def player_of(letter):
    """Return the player who fills a variable with a letter of the prefix."""
    return "one" if letter == "e" else "two"


def matrix_lines(matrix):
    """Return the lines that let the result be the value of a matrix."""
    match matrix:
        case ("v", number):
            return [f"result[zero] = v{number}[zero]"]
        case ("not", inner):
            turned = ["if result[zero] is t", "result[zero] = f", "else", "result[zero] = t", "end"]
            return matrix_lines(inner) + turned
    word, left, right = matrix
    # The first value is the result already if it decides alone.
    undecided = "t" if word == "and" else "f"
    return matrix_lines(left) + [f"if result[zero] is {undecided}"] + matrix_lines(right) + ["end"]
