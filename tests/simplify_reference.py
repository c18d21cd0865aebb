"""Simplifying steps and exchanged programs once more, written apart from the package, and programs with many steps."""

import random

from tests.drawn import Drawing


def at_path(whole, path):
    for at in path:
        whole = whole[at]
    return whole


def paths(whole, path=()):
    """Return all paths to items of tuples in a tuple."""
    found = []
    if isinstance(whole, tuple):
        for at, part in enumerate(whole):
            found += [path + (at,)] + paths(part, path + (at,))
    return found


COMMANDS = ("set", "copy", "clear", "zero", "up", "down", "same", "if", "repeat", "do", "choose", "wins")


def is_place_of_command(program, path):
    """Return whether at a path there is a command in a block."""
    if len(path) < 4 or path[0] != 2 or path[2] != 1:
        return False
    return len(path) == 4 or (at_path(program, path[:-2])[0], path[-2]) in (("if", 2), ("if", 3), ("repeat", 2)) and is_place_of_command(
        program, path[:-2])


def is_place_of_test(program, path):
    """Return whether at a path there is a test, of an "if" or in a "not"."""
    if path[-1:] != (1,):
        return False
    whole = at_path(program, path[:-1])
    if is_place_of_command(program, path[:-1]):
        return whole[0] == "if"
    return is_place_of_test(program, path[:-1]) and whole[0] == "not"


def steps(program):
    """Return the list of all steps, by looking at each path of the whole program."""
    found = []
    for path in paths(program):
        if is_place_of_command(program, path):
            found += [(word, path) for word in command_words(program, path)]
        elif is_place_of_test(program, path) and repr(at_path(program, path)).startswith("('not', ('not', "):
            found.append(("twice", path))
    return sorted(found)


def command_words(program, path):
    command = at_path(program, path)
    earlier = at_path(program, path[:-1])[:path[-1]]
    words = []
    if command[0] == "if":
        words += ["flip"] * (command[1][0] == "not") + ["hollow"] * (command[2:] == ((), ()))
        words += ["sure"] * (command[1][0] == "at" and len(set(command[1][1:])) == 1)
    words += ["hollow"] * (command[0] == "repeat" and () in command)
    words += ["idle"] * (command[0] == "same" and command[1] == command[2])
    words += ["idle"] * (command[0] == "copy" and command[1:3] == command[3:5])
    words += ["single"] * (command[0] == "choose" and len(command[4]) == 1)
    words += ["late"] * any(other[0] == "wins" for other in earlier)
    return words


def after(program, step):
    """Return the program after a step, made by going through all of it and putting other things at one path."""
    word, path = step

    def rebuilt(whole, here):
        if not isinstance(whole, tuple):
            return whole
        parts = []
        for at, part in enumerate(whole):
            if here + (at,) == path:
                parts += instead(word, part)
            else:
                parts.append(rebuilt(part, here + (at,)))
        return tuple(parts)

    return rebuilt(program, ())


def instead(word, part):
    """Return the list of what stands in place of a command or a test."""
    if word == "flip":
        return [("if", part[1][1], part[3], part[2])]
    if word == "single":
        return [("set", part[2], part[3], part[4])]
    return {"sure": lambda: list(part[2]), "twice": lambda: [part[1][1]]}.get(word, lambda: [])()


def size(program):
    """Return how many commands and tests there are, and how many of the commands are "choose"."""
    commands = [path for path in paths(program) if is_place_of_command(program, path)]
    tests = [path for path in paths(program) if is_place_of_test(program, path)]
    return (len(commands) + len(tests), sum(at_path(program, path)[0] == "choose" for path in commands))


def exchanged(program):
    """Return the program with the players exchanged, by exchanging the words in how it is written."""
    tapes, indexes, procedures = program

    def turned(whole):
        if isinstance(whole, tuple) and whole[:1] in (("choose",), ("wins",)) and whole[1:2] in (("one",), ("two",)):
            return (whole[0], {"one": "two", "two": "one"}[whole[1]]) + whole[2:]
        return tuple(turned(part) for part in whole) if isinstance(whole, tuple) else whole

    if procedures == ():
        return (tapes, indexes, (("main", (("wins", "one"),)),))
    done = [(name, turned(commands)) for name, commands in procedures]
    return (tapes, indexes, tuple(done[:-1]) + ((done[-1][0], done[-1][1] + (("wins", "one"),)),))


class StepDrawing(Drawing):
    """Draws programs in which many steps are possible."""

    def __init__(self, seed, only_one=False):
        Drawing.__init__(self, seed, False)
        self.only_one = only_one

    def test(self):
        draw = self.random.random()
        if draw < 0.3:
            return ("not", self.test())
        if draw < 0.45:
            index = self.index()
            return ("at", index, index)
        return Drawing.test(self)

    def block(self, depth):
        return tuple(self.command(depth) for _ in range(self.random.choice([0, 0, 1, 2, 3] if depth < 3 else [2, 3, 4])))

    def command(self, depth):
        draw = self.random.random()
        if draw < 0.08:
            tape, index = self.tape(True), self.index()
            return self.one_of([("same", index, index), ("copy", tape, index, tape, index)])
        if draw < 0.16 and self.choices_left > 0:
            self.choices_left -= 1
            return ("choose", self.one_of(["one", "two"]), self.tape(True), self.index(), self.one_of("abc"))
        if draw < 0.22:
            return ("wins", self.one_of(["one", "two"]))
        return Drawing.command(self, depth)

    def one_of(self, things):
        if self.only_one and things == ["one", "two"] and self.random.random() < 0.93:
            return "one"
        return Drawing.one_of(self, things)


def drawn_with_steps(seeds, most=60):
    """Return programs with at most so many commands and tests together."""
    found = [StepDrawing(seed).script() for seed in seeds]
    return [program for program in found if size(program)[0] <= most]


def drawn_of_one(seeds, most=60):
    """Return programs, most of them of one player."""
    found = [StepDrawing(seed, True).script() for seed in random.Random(0).sample(list(seeds), len(seeds))]
    return [program for program in found if size(program)[0] <= most]
