"""Bounds of programs, read off their texts as polynomials in the length of the input."""

from narrowplay.faults import check_program
from narrowplay.polys import constant, product_of, sum_of
from narrowplay.scripts import COMMANDS

ONE = ((0, 1),)
INPUT = ((1, 1),)


def clock(program):
    """Return the bound of the steps of a play."""
    check_program(program)
    return Measure(list(COMMANDS), ONE).of_main(program[2])


def choices(program):
    """Return the bound of the choices in a play."""
    check_program(program)
    return Measure(["choose"], ()).of_main(program[2])


def cells(program):
    """Return the bound of the cells that are needed."""
    check_program(program)
    tapes, indexes, procedures = program
    fixed = len(indexes) + len(procedures) + sum([many_repeats(commands) for _, commands in procedures])
    total = sum_of(INPUT, constant(fixed))
    for _, size in tapes:
        total = sum_of(total, size)
    return sum_of(total, choices(program))


def many_repeats(commands):
    """Return how many "repeat" commands are in a block and in the blocks within it."""
    many = 0
    for command in commands:
        if command[0] == "repeat":
            many = many + 1 + many_repeats(command[2])
        elif command[0] == "if":
            many = many + many_repeats(command[2]) + many_repeats(command[3])
    return many


class Measure:
    """A sum over commands: 1 for each one with some words, and something more for each round of a "repeat"."""

    def __init__(self, words, each_round):
        self.words = words
        self.each_round = each_round
        self.known = {}

    def of_main(self, procedures):
        """Return the sum of the last one of all procedures, () if there are none."""
        total = ()
        for name, commands in procedures:
            total = self.of_block(commands)
            self.known[name] = total
        return total

    def of_block(self, commands):
        """Return the sum of a block."""
        total = ()
        for command in commands:
            if command[0] in self.words:
                total = sum_of(total, ONE)
            total = sum_of(total, self.of_parts(command))
        return total

    def of_parts(self, command):
        """Return the sum of the blocks in a command, or of the procedure that it does."""
        match command:
            case ("if", _, commands, others):
                return sum_of(self.of_block(commands), self.of_block(others))
            case ("repeat", poly, commands):
                return product_of(poly, sum_of(self.of_block(commands), self.each_round))
            case ("do", name):
                return self.known[name]
        return ()
