"""Faults, plays, winners, plans and bounds once more, written apart from the package, for comparison."""


def value(poly, number):
    return sum(coefficient * number ** exponent for exponent, coefficient in poly)


# Faults: [3.1], each kind of command and of test with its own line.


def faults(script):
    """Return all faults of a script."""
    found = []
    for sort in range(3):
        earlier = []
        for at, (name, _) in enumerate(script[sort]):
            if name in earlier or (sort, name) == (0, "input"):
                found.append(("twice", (sort, at, 0)))
            earlier.append(name)
    for at, (_, commands) in enumerate(script[2]):
        names = {
            "tape": {"input"} | {name for name, _ in script[0]}, "index": {name for name, _ in script[1]},
            "procedure": {name for name, _ in script[2][:at]},
        }
        for where, command in enumerate(commands):
            found += command_faults(command, (2, at, 1, where), names)
    return found


def command_faults(command, path, names):
    word = command[0]
    sorts = {
        "set": "ti", "copy": "titi", "clear": "ti", "zero": "i", "up": "i", "down": "i", "same": "ii", "do": "p",
        "choose": " ti", "if": "", "repeat": "", "wins": "",
    }[word]
    found = name_faults(command, sorts, path, names)
    if word in ("set", "copy", "clear") and command[1] == "input":
        found.append(("input", path + (1,)))
    if word == "choose" and command[2] == "input":
        found.append(("input", path + (2,)))
    if word == "if":
        found += test_faults(command[1], path + (1,), names)
    for part in {"if": (2, 3), "repeat": (2,)}.get(word, ()):
        for where, inner in enumerate(command[part]):
            found += command_faults(inner, path + (part, where), names)
    return found


def test_faults(test, path, names):
    if test[0] == "not":
        return test_faults(test[1], path + (1,), names)
    sorts = {"is": "ti", "equal": "titi", "empty": "ti", "inside": "ti", "at": "ii"}[test[0]]
    return name_faults(test, sorts, path, names)


def name_faults(whole, sorts, path, names):
    known = {"t": names["tape"], "i": names["index"], "p": names["procedure"]}
    return [("unknown", path + (at,)) for at, sort in enumerate(sorts, start=1)
            if sort != " " and whole[at] not in known[sort]]


# Plays: [4], by functions that call each other, and an error where a play ends.


class Stopped(Exception):

    def __init__(self, result):
        Exception.__init__(self)
        self.result = result


class Playing:

    def __init__(self, program, word, picks):
        self.length = len(word)
        self.cells = {"input": dict(enumerate(word))}
        self.sizes = {"input": len(word)}
        for name, poly in program[0]:
            self.cells[name] = {}
            self.sizes[name] = value(poly, len(word))
        self.bounds = {name: value(poly, len(word)) for name, poly in program[1]}
        self.numbers = {name: 0 for name in self.bounds}
        self.procedures = dict(program[2])
        self.picks = picks
        self.taken = 0
        self.steps = 0
        self.told = self.whole(program)
        self.state = (
            tuple(tuple(self.cells[name].get(at) for at in range(self.sizes[name])) for name, _ in program[0]),
            tuple(self.numbers[name] for name, _ in program[1]))

    def whole(self, program):
        try:
            if program[2]:
                self.block(program[2][-1][1])
        except Stopped as stop:
            return stop.result
        return ("won", "two", self.steps, self.taken)

    def block(self, commands):
        for command in commands:
            getattr(self, "do_" + command[0])(*command[1:])

    def exists(self, tape, index):
        return self.numbers[index] < self.sizes[tape]

    def truth(self, test):
        word, *parts = test
        if word == "not":
            return not self.truth(parts[0])
        if word == "at":
            return self.numbers[parts[0]] == self.numbers[parts[1]]
        if not self.exists(*parts[:2]):
            return False
        letter = self.cells[parts[0]].get(self.numbers[parts[1]])
        if word == "inside":
            return True
        if word == "empty":
            return letter is None
        if word == "is":
            return letter == parts[2]
        if not self.exists(*parts[2:]):
            return False
        return letter is not None and letter == self.cells[parts[2]].get(self.numbers[parts[3]])

    def do_set(self, tape, index, letter):
        self.steps += 1
        if self.exists(tape, index):
            self.cells[tape][self.numbers[index]] = letter

    def do_copy(self, tape, index, other, at):
        self.steps += 1
        if self.exists(tape, index) and self.exists(other, at):
            self.cells[tape][self.numbers[index]] = self.cells[other].get(self.numbers[at])

    def do_clear(self, tape, index):
        self.steps += 1
        if self.exists(tape, index):
            self.cells[tape].pop(self.numbers[index], None)

    def do_zero(self, index):
        self.steps += 1
        self.numbers[index] = 0

    def do_up(self, index):
        self.steps += 1
        if self.numbers[index] != self.bounds[index]:
            self.numbers[index] += 1

    def do_down(self, index):
        self.steps += 1
        if self.numbers[index] != 0:
            self.numbers[index] -= 1

    def do_same(self, index, other):
        self.steps += 1
        if self.numbers[other] <= self.bounds[index]:
            self.numbers[index] = self.numbers[other]
        else:
            self.numbers[index] = self.bounds[index]

    def do_if(self, test, commands, others):
        self.steps += 1
        self.block(commands if self.truth(test) else others)

    def do_repeat(self, poly, commands):
        self.steps += 1
        for _ in range(value(poly, self.length)):
            self.block(commands)
            self.steps += 1

    def do_do(self, name):
        self.steps += 1
        self.block(self.procedures[name])

    def do_wins(self, player):
        self.steps += 1
        raise Stopped(("won", player, self.steps, self.taken))

    def do_choose(self, player, tape, index, letters):
        if self.taken >= len(self.picks):
            raise Stopped(("asks", player, letters, self.steps))
        letter = self.picks[self.taken]
        if letters.count(letter) == 0:
            raise Stopped(("wrong", self.taken))
        self.taken += 1
        self.do_set(tape, index, letter)


# Winners and plans: [5], over a table of the whole tree.


def tree(told_of):
    """Return for all picks of a tree to what the play comes; told_of tells it for picks."""
    found = {}
    waiting = [""]
    while waiting:
        picks = waiting.pop()
        found[picks] = told_of(picks)
        if found[picks][0] == "asks":
            waiting += [picks + letter for letter in found[picks][2]]
    return found


def program_tree(program, word):
    return tree(lambda picks: Playing(program, word, picks).told)


def winners(found):
    """Return who wins from all picks of a tree."""
    won = {}
    for picks in sorted(found, key=len, reverse=True):
        told = found[picks]
        if told[0] == "won":
            won[picks] = told[1]
        else:
            player = told[1]
            other = {"one": "two", "two": "one"}[player]
            won[picks] = player if any(won[picks + letter] == player for letter in told[2]) else other
    return won


def is_plan(found, picks, player, thing):
    """Return whether a value is a plan; it compares how values are written, which tells lists from tuples."""
    told = found[picks]
    if told[0] == "won":
        return told[1] == player and repr(thing) == "('end',)"
    if not isinstance(thing, tuple):
        return False
    if told[1] == player:
        for letter in told[2]:
            if len(thing) == 3 and repr(thing[:2]) == repr(("pick", letter)):
                return is_plan(found, picks + letter, player, thing[2])
        return False
    if len(thing) != 2 or thing[0] != "all" or not isinstance(thing[1], tuple) or len(thing[1]) != len(told[2]):
        return False
    return all([is_plan(found, picks + letter, player, plan) for letter, plan in zip(told[2], thing[1])])


def plans(found, picks, player):
    """Return all plans of a player from picks."""
    told = found[picks]
    if told[0] == "won":
        return [("end",)] if told[1] == player else []
    if told[1] == player:
        return [("pick", letter, plan) for letter in told[2] for plan in plans(found, picks + letter, player)]
    rows = [()]
    for letter in told[2]:
        rows = [row + (plan,) for row in rows for plan in plans(found, picks + letter, player)]
    return [("all", row) for row in rows]


# Bounds: [6], as the numbers that the polynomials have at a length, by going through all rounds.


def block_numbers(commands, procedures, length):
    """Return the pair of the numbers of a block's clock and choices at a length."""
    steps = picks = 0
    for command in commands:
        steps += 1
        inner = [(0, 0)]
        if command[0] == "choose":
            picks += 1
        elif command[0] == "if":
            inner = [block_numbers(part, procedures, length) for part in command[2:]]
        elif command[0] == "repeat":
            many, (by_round, picked) = value(command[1], length), block_numbers(command[2], procedures, length)
            inner = [(many * (by_round + 1), many * picked)]
        elif command[0] == "do":
            inner = [block_numbers(procedures[command[1]], procedures, length)]
        steps += sum(pair[0] for pair in inner)
        picks += sum(pair[1] for pair in inner)
    return (steps, picks)


def numbers(program, length):
    """Return the values of the clock, the choices and the cells of a program at a length."""
    steps, picks = block_numbers(program[2][-1][1], dict(program[2]), length) if program[2] else (0, 0)
    held = length + sum(value(poly, length) for _, poly in program[0]) + len(program[1]) + len(program[2]) + picks
    return (steps, picks, held + repr(program[2]).count("('repeat', "))
