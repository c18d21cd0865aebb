"""The compiler once more, written apart from the package, and programs with other names, orders and letters."""

import random


def size(commands):
    """Return the number of rows of a block."""
    many = 0
    for command in commands:
        if command[0] == "if":
            many += 1 + size(command[2]) + (1 + size(command[3]) if command[3] else 0)
        elif command[0] == "repeat":
            many += 2 + size(command[2])
        else:
            many += 1
    return many


class Numbers:

    def __init__(self, program):
        self.tapes = ["input"] + [pair[0] for pair in program[0]]
        self.indexes = [pair[0] for pair in program[1]]
        self.procedures = [pair[0] for pair in program[2]]

    def of(self, whole):
        """Return a plain command or a test with numbers, each kind with its own line."""
        word, *parts = whole
        t, i = self.tapes.index, self.indexes.index
        if word == "not":
            return ("not", self.of(parts[0]))
        if word in ("set", "is"):
            return (word, t(parts[0]), i(parts[1]), parts[2])
        if word in ("copy", "equal"):
            return (word, t(parts[0]), i(parts[1]), t(parts[2]), i(parts[3]))
        if word in ("clear", "empty", "inside"):
            return (word, t(parts[0]), i(parts[1]))
        if word in ("zero", "up", "down"):
            return (word, i(parts[0]))
        if word in ("same", "at"):
            return (word, i(parts[0]), i(parts[1]))
        if word == "choose":
            return (word, parts[0], t(parts[1]), i(parts[2]), parts[3])
        if word == "do":
            return ("call", self.procedures.index(parts[0]))
        return ("wins", parts[0])


def block_rows(commands, start, numbers, path):
    """Return the list of pairs (row, path) of a block whose first row has the number start."""
    found = []
    for at, command in enumerate(commands):
        found += command_rows(command, start + len(found), numbers, path + (at,))
    return found


def command_rows(command, start, numbers, path):
    if command[0] == "if" and command[3] == ():
        _, test, commands, _ = command
        return [(("unless", numbers.of(test), start + 1 + size(commands)), path)] + block_rows(commands, start + 1, numbers, path + (2,))
    if command[0] == "if":
        _, test, commands, others = command
        first_of_others = start + 1 + size(commands) + 1
        after = first_of_others + size(others)
        return ([(("unless", numbers.of(test), first_of_others), path)] + block_rows(commands, start + 1, numbers, path + (2,))
                + [(("jump", after), path)] + block_rows(others, first_of_others, numbers, path + (3,)))
    if command[0] == "repeat":
        _, poly, commands = command
        return ([(("repeat", poly, start + size(commands) + 1), path)] + block_rows(commands, start + 1, numbers, path + (2,))
                + [(("again", start), path)])
    return [(numbers.of(command), path)]


def compiled(program):
    """Return the pair of the code and the map."""
    numbers = Numbers(program)
    rows = [block_rows(commands, 0, numbers, ()) for _, commands in program[2]]
    code = ((((1, 1),),) + tuple(poly for _, poly in program[0]), tuple(poly for _, poly in program[1]),
            tuple(tuple(row for row, _ in pairs) for pairs in rows))
    return (code, tuple(tuple(path for _, path in pairs) for pairs in rows))


# Programs that differ in nothing but names, the orders of tapes and indexes, and letters.

NAMES = ["a", "b", "x_1", "tt", "input2", "i", "t", "q9", "nn", "one_", "z", "main", "p", "k", "n_", "oneone", "up_", "j", "zero"]


class Renaming:
    """Draws other names, orders and letters for a program."""

    def __init__(self, program, seed):
        self.random = random.Random(seed)
        self.tapes = self.names([pair[0] for pair in program[0]])
        self.tapes["input"] = "input"
        self.indexes = self.names([pair[0] for pair in program[1]])
        self.procedures = self.names([pair[0] for pair in program[2]])
        # At times an index or a procedure has the name of the input, or of a tape.
        if program[1]:
            self.indexes[program[1][0][0]] = "input"
        if program[2]:
            taken = ["input"] + [self.tapes[pair[0]] for pair in program[0]]
            free = [name for name in taken if name not in self.procedures.values()]
            self.procedures[program[2][-1][0]] = self.random.choice(free)
        letters = list("abcdefghijklmnopqrstuvwxyz")
        self.random.shuffle(letters)
        self.letters = dict(zip("abcdefghijklmnopqrstuvwxyz", letters))
        self.program = self.renamed(program)

    def names(self, old):
        return dict(zip(old, self.random.sample(NAMES, len(old))))

    def word(self, word):
        return "".join(self.letters[letter] for letter in word)

    def pairs(self, pairs, names):
        found = [(names[name], poly) for name, poly in pairs]
        self.random.shuffle(found)
        return tuple(found)

    def renamed(self, program):
        tapes, indexes, procedures = program
        blocks = tuple((self.procedures[name], self.block(commands)) for name, commands in procedures)
        return (self.pairs(tapes, self.tapes), self.pairs(indexes, self.indexes), blocks)

    def block(self, commands):
        return tuple(self.part(command) for command in commands)

    def part(self, whole):
        """Return a command or a test with the other names and letters."""
        word, *parts = whole
        t, i, x = self.tapes.get, self.indexes.get, self.letters.get
        if word in ("set", "is"):
            return (word, t(parts[0]), i(parts[1]), x(parts[2]))
        if word in ("copy", "equal"):
            return (word, t(parts[0]), i(parts[1]), t(parts[2]), i(parts[3]))
        if word in ("clear", "empty", "inside"):
            return (word, t(parts[0]), i(parts[1]))
        if word in ("zero", "up", "down", "same", "at"):
            return (word, *[i(part) for part in parts])
        if word == "choose":
            return (word, parts[0], t(parts[1]), i(parts[2]), "".join(sorted(self.word(parts[3]))))
        if word == "not":
            return (word, self.part(parts[0]))
        if word == "if":
            return (word, self.part(parts[0]), self.block(parts[1]), self.block(parts[2]))
        if word == "repeat":
            return (word, parts[0], self.block(parts[1]))
        return ("do", self.procedures[parts[0]]) if word == "do" else whole
