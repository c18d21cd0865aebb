"""Machines with bounded tapes, their standings, and pictures of standings."""

from narrowplay.basics import ALPHABET, is_ascending, is_integer
from narrowplay.errors import BadMachine, BadNumber, BadStanding, BadWord
from narrowplay.polys import constant, is_poly, is_word, product_of, sum_of, value_at


def is_machine(thing):
    """Return whether any value is a machine."""
    if not isinstance(thing, tuple) or len(thing) != 4 or thing[0] != "machine":
        return False
    _, signs, rules, room = thing
    if not is_word(signs) or len(signs) < 2 or not is_ascending(signs):
        return False
    if not isinstance(rules, tuple) or not 1 <= len(rules) <= 24:
        return False
    if not all(is_state(state, signs, len(rules)) for state in rules):
        return False
    return is_poly(room) and room != () and room[0][0] == 0


def is_state(thing, signs, many):
    """Return whether any value is a state of a machine that has some signs and so many states."""
    if not isinstance(thing, tuple) or len(thing) != len(signs):
        return False
    return all(is_rule(rule, signs, many) for rule in thing)


def is_rule(thing, signs, many):
    """Return whether any value is a rule of a machine that has some signs and so many states."""
    if not isinstance(thing, tuple) or len(thing) != 3:
        return False
    state, sign, move = thing
    if not is_integer(state) or not 0 <= state <= many + 1:
        return False
    # Not "sign in signs": this holds for strings of several signs, too.
    return sign in list(signs) and is_integer(move) and -1 <= move <= 1


def check_machine(machine):
    """Raise the error for a value that is not a machine."""
    if not is_machine(machine):
        raise BadMachine(machine)


def check_machine_and_word(machine, word):
    """Raise the error for the first of two values that is not of its kind."""
    check_machine(machine)
    if not is_word(word):
        raise BadWord(word)


def depth(machine):
    """Return the polynomial for the number of digits with which all standings can be told apart."""
    check_machine(machine)
    _, signs, rules, room = machine
    return sum_of(product_of(constant(digits(len(signs)) + 1), room), constant(digits(len(rules) + 2)))


def digits(number):
    """Return the least exponent for which a power of 2 is at least an integer from 1 on."""
    return (number - 1).bit_length()


def first_standing(machine, word):
    """Return the first standing with a word."""
    check_machine_and_word(machine, word)
    _, signs, _, room = machine
    width = value_at(room, len(word))
    letters = [letter if letter in signs else signs[0] for letter in word[:width]]
    return (0, 0, "".join(letters).ljust(width, signs[0]))


def accepts(machine, word):
    """Return whether a machine accepts a word."""
    standing = first_standing(machine, word)
    many = len(machine[2])
    seen = {}
    # A standing that comes up again comes up for ever.
    while standing[0] < many and standing not in seen:
        seen[standing] = True
        standing = standing_after(machine, standing)
    return standing[0] == many


def is_standing(machine, width, thing):
    """Return whether any value is a standing of a machine for a tape of some width."""
    check_machine(machine)
    if not is_integer(width) or width < 1:
        raise BadNumber(width)
    return is_of_machine(machine, thing) and len(thing[2]) == width


def is_of_machine(machine, thing):
    """Return whether any value is a standing of a machine for a tape of any width."""
    if not isinstance(thing, tuple) or len(thing) != 3:
        return False
    _, signs, rules, _ = machine
    state, head, cells = thing
    if not isinstance(cells, str) or not all(sign in signs for sign in cells):
        return False
    if not is_integer(state) or not is_integer(head):
        return False
    return 0 <= state <= len(rules) + 1 and 0 <= head < len(cells)


def check_standing(machine, standing):
    """Raise the error for the first of two values that is not a machine, or not a standing of it."""
    check_machine(machine)
    if not is_of_machine(machine, standing):
        raise BadStanding(standing)


def next_standing(machine, standing):
    """Return the next standing of a standing."""
    check_standing(machine, standing)
    return standing_after(machine, standing)


def standing_after(machine, standing):
    """Return the next standing of what is known to be a standing."""
    _, signs, rules, _ = machine
    state, head, cells = standing
    if state >= len(rules):
        return standing
    following, sign, move = rules[state][signs.find(cells[head])]
    place = max(0, min(head + move, len(cells) - 1))
    return (following, place, cells[:head] + sign + cells[head + 1:])


def picture(machine, standing):
    """Return the picture of a standing."""
    check_standing(machine, standing)
    return picture_of(standing)


def picture_of(standing):
    """Return the picture of what is known to be a standing."""
    state, head, cells = standing
    return cells + "n" * head + "y" + "n" * (len(cells) - head - 1) + ALPHABET[state]


def standing_of(machine, word):
    """Return the standing of which a word is the picture, None if it is no picture."""
    check_machine_and_word(machine, word)
    if len(word) < 3:
        return None
    width = (len(word) - 1) // 2
    standing = (ALPHABET.find(word[-1]), word[width:2 * width].find("y"), word[:width])
    # The picture differs from a word of even length, and from one in which there is another letter for a head.
    return standing if is_of_machine(machine, standing) and picture_of(standing) == word else None
