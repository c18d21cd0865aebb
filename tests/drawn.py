"""Scripts and programs that are drawn, always the same ones from a seed."""

import random

LETTERS = ["a", "b", "ab", "abc", "ac"]


class Drawing:
    """Draws scripts; if loose, names are drawn at times without asking what they name, so that there are faults."""

    def __init__(self, seed, loose):
        self.random = random.Random(seed)
        self.loose = loose
        self.tapes = ["input"]
        self.indexes = []
        self.done = []
        self.choices_left = 6

    def one_of(self, things):
        return self.random.choice(things)

    def poly(self, most):
        kind = self.random.randrange(6)
        if kind == 0:
            return ()
        if kind <= 3:
            return ((0, self.random.randint(1, most)),)
        return ((1, 1),) if kind == 4 else ((0, 1), (1, 1))

    def script(self):
        names = ["t", "u", "v", "input", "i", "j", "w"] if self.loose else ["t", "u", "i"]
        tapes = self.random.sample(names, self.random.randint(1, 3))
        indexes = self.random.sample(["i", "j", "t", "input"], self.random.randint(1, 3))
        procedures = self.random.sample(["p", "q", "main", "t", "input"], self.random.randint(1, 3))
        if self.loose:
            tapes, indexes, procedures = [part + [self.one_of(part)] * self.one_of([0, 0, 0, 1, 2])
                                          for part in (tapes, indexes, procedures)]
        self.tapes += tapes
        self.indexes += indexes
        pairs = []
        for name in procedures:
            self.choices_left = 3
            pairs.append((name, self.block(3)))
            self.done.append(name)
        return (tuple((name, self.poly(3)) for name in tapes), tuple((name, self.poly(2)) for name in indexes), tuple(pairs))

    def tape(self, written=False):
        if self.loose and self.random.random() < 0.05:
            return self.one_of(["x", "i", "p", "input"])
        return self.one_of(self.tapes[1:] if written else self.tapes)

    def index(self):
        if self.loose and self.random.random() < 0.05:
            return self.one_of(["x", "t", "p", "input"])
        return self.one_of(self.indexes)

    def procedure(self):
        if not self.done or (self.loose and self.random.random() < 0.2):
            return self.one_of(["p", "q", "main", "x", "i"])
        return self.one_of(self.done)

    def test(self):
        kind = self.random.randrange(7)
        if kind <= 1:
            return ("not", self.test())
        return [
            ("is", self.tape(), self.index(), self.one_of("abc")),
            ("equal", self.tape(), self.index(), self.tape(), self.index()),
            ("empty", self.tape(), self.index()),
            ("inside", self.tape(), self.index()),
            ("at", self.index(), self.index()),
        ][kind - 2]

    def block(self, depth):
        return tuple(self.command(depth) for _ in range(self.random.choice([0, 1, 2, 3, 4] if depth < 3 else [3, 4, 5, 6])))

    def command(self, depth):
        kind = self.random.randrange(20)
        if kind < 7 and depth > 0:
            if kind < 4:
                return ("if", self.test(), self.block(depth - 1), self.block(depth - 1))
            return ("repeat", self.poly(2), self.block(depth - 1))
        if kind < 10 and self.choices_left > 0:
            self.choices_left -= 1
            return ("choose", self.one_of(["one", "two"]), self.tape(True), self.index(), self.one_of(LETTERS))
        if kind == 10 and (self.done or self.loose):
            return ("do", self.procedure())
        if kind == 11:
            return ("wins", self.one_of(["one", "two"]))
        return self.plain()

    def plain(self):
        return self.one_of([
            ("set", self.tape(True), self.index(), self.one_of("abc")),
            ("copy", self.tape(True), self.index(), self.tape(), self.index()),
            ("clear", self.tape(True), self.index()), ("zero", self.index()), ("up", self.index()), ("up", self.index()),
            ("down", self.index()), ("same", self.index(), self.index()),
        ])


def drawn_scripts(seeds):
    """Return scripts, most of them with faults."""
    return [Drawing(seed, True).script() for seed in seeds]


def drawn_programs(seeds):
    """Return scripts without faults."""
    return [Drawing(seed, False).script() for seed in seeds]
