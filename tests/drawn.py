"""Scripts and programs that are drawn, always the same ones from a seed."""

import random

LETTERS = ["a", "b", "ab", "abc", "ac"]


class Drawing:
    """Draws scripts; if loose, names are drawn at times without asking what they name, so that there are faults."""

    def __init__(self, seed, loose):
        self.random = random.Random(seed)
        self.loose = loose
        self.tapes = ["input"]
        self.indexes = []
        self.done = []
        self.choices_left = 6

    def one_of(self, things):
        return self.random.choice(things)

    def poly(self, most):
        kind = self.random.randrange(6)
        if kind == 0:
            return ()
        if kind <= 3:
            return ((0, self.random.randint(1, most)),)
        return ((1, 1),) if kind == 4 else ((0, 1), (1, 1))

    def script(self):
        names = ["t", "u", "v", "input", "i", "j", "w"] if self.loose else ["t", "u", "i"]
        tapes = self.random.sample(names, self.random.randint(1, 3))
        indexes = self.random.sample(["i", "j", "t", "input"], self.random.randint(1, 3))
        procedures = self.random.sample(["p", "q", "main", "t", "input"], self.random.randint(1, 3))
        if self.loose:
            tapes, indexes, procedures = [part + [self.one_of(part)] * self.one_of([0, 0, 0, 1, 2])
                                          for part in (tapes, indexes, procedures)]
        self.tapes += tapes
        self.indexes += indexes
        pairs = []
        for name in procedures:
            self.choices_left = 3
            pairs.append((name, self.block(3)))
            self.done.append(name)
        return (tuple((name, self.poly(3)) for name in tapes), tuple((name, self.poly(2)) for name in indexes), tuple(pairs))

    def tape(self, written=False):
        if self.loose and self.random.random() < 0.05:
            return self.one_of(["x", "i", "p", "input"])
        return self.one_of(self.tapes[1:] if written else self.tapes)

    def index(self):
        if self.loose and self.random.random() < 0.05:
            return self.one_of(["x", "t", "p", "input"])
        return self.one_of(self.indexes)

    def procedure(self):
        if not self.done or (self.loose and self.random.random() < 0.2):
            return self.one_of(["p", "q", "main", "x", "i"])
        return self.one_of(self.done)

    def test(self):
        kind = self.random.randrange(7)
        if kind <= 1:
            return ("not", self.test())
        return [
            ("is", self.tape(), self.index(), self.one_of("abc")),
            ("equal", self.tape(), self.index(), self.tape(), self.index()),
            ("empty", self.tape(), self.index()),
            ("inside", self.tape(), self.index()),
            ("at", self.index(), self.index()),
        ][kind - 2]

    def block(self, depth):
        return tuple(self.command(depth) for _ in range(self.random.choice([0, 1, 2, 3, 4] if depth < 3 else [3, 4, 5, 6])))

    def command(self, depth):
        kind = self.random.randrange(20)
        if kind < 7 and depth > 0:
            if kind < 4:
                return ("if", self.test(), self.block(depth - 1), self.block(depth - 1))
            return ("repeat", self.poly(2), self.block(depth - 1))
        if kind < 10 and self.choices_left > 0:
            self.choices_left -= 1
            return ("choose", self.one_of(["one", "two"]), self.tape(True), self.index(), self.one_of(LETTERS))
        if kind == 10 and (self.done or self.loose):
            return ("do", self.procedure())
        if kind == 11:
            return ("wins", self.one_of(["one", "two"]))
        return self.plain()

    def plain(self):
        return self.one_of([
            ("set", self.tape(True), self.index(), self.one_of("abc")),
            ("copy", self.tape(True), self.index(), self.tape(), self.index()),
            ("clear", self.tape(True), self.index()), ("zero", self.index()), ("up", self.index()), ("up", self.index()),
            ("down", self.index()), ("same", self.index(), self.index()),
        ])


def drawn_scripts(seeds):
    """Return scripts, most of them with faults."""
    return [Drawing(seed, True).script() for seed in seeds]


def drawn_programs(seeds):
    """Return scripts without faults."""
    return [Drawing(seed, False).script() for seed in seeds]


class CodeDrawing:
    """Draws code that is accepted: rows of loops within each other, with jumps that stay inside the same ones."""

    def __init__(self, seed):
        self.random = random.Random(seed)
        self.tapes = 0
        self.indexes = 0
        self.choices_left = 4

    def one_of(self, things):
        return self.random.choice(things)

    def poly(self, most):
        return self.one_of([(), ((0, 1),), ((0, most),), ((1, 1),), ((0, 1), (1, 1)), ((0, 2),)])

    def code(self):
        self.tapes = self.random.randint(2, 4)
        self.indexes = self.random.randint(1, 3)
        tapes = (((1, 1),),) + tuple(self.poly(3) for _ in range(self.tapes - 1))
        routines = []
        for number in range(self.random.randint(1, 4)):
            self.choices_left = 2
            rows = [] if self.random.random() < 0.2 else self.rows(3, number)
            routines.append(tuple(self.with_jumps(self.with_loops(rows))))
        return (tapes, tuple(self.poly(2) for _ in range(self.indexes)), tuple(routines))

    def rows(self, depth, number):
        """Return rows, with "repeat" and "again" as brackets, and jumps that go nowhere yet."""
        found = []
        for _ in range(self.random.randint(4, 7) if depth == 3 else self.random.randint(0, 4)):
            kind = self.random.randrange(14)
            if kind < 3 and depth > 0:
                found += [("repeat", self.poly(2))] + self.rows(depth - 1, number) + [("again",)]
            elif kind < 6 and self.choices_left > 0:
                self.choices_left -= 1
                found.append(("choose", self.one_of(["one", "two"]), self.tape(), self.index(), self.one_of(LETTERS)))
            elif kind == 6 and number > 0:
                found.append(("call", self.random.randrange(number)))
            elif kind == 7:
                found.append(("wins", self.one_of(["one", "two"])))
            elif kind < 11:
                found.append(("jump",) if kind == 8 else ("unless", self.test()))
            else:
                found.append(self.plain())
        return found

    def tape(self):
        return self.random.randrange(1, self.tapes)

    def index(self):
        return self.random.randrange(self.indexes)

    def test(self):
        kind = self.random.randrange(6)
        if kind == 0:
            return ("not", self.test())
        tape, other = self.random.randrange(self.tapes), self.random.randrange(self.tapes)
        return [
            ("is", tape, self.index(), self.one_of("abc")), ("equal", tape, self.index(), other, self.index()),
            ("empty", tape, self.index()), ("inside", tape, self.index()), ("at", self.index(), self.index()),
        ][kind - 1]

    def plain(self):
        return self.one_of([
            ("set", self.tape(), self.index(), self.one_of("abc")),
            ("copy", self.tape(), self.index(), self.random.randrange(self.tapes), self.index()),
            ("clear", self.tape(), self.index()), ("zero", self.index()), ("up", self.index()), ("up", self.index()),
            ("down", self.index()), ("same", self.index(), self.index()),
        ])

    def with_loops(self, rows):
        """Give each repeat and again the row of the other one."""
        opened = []
        for at, row in enumerate(rows):
            if row[0] == "repeat":
                opened.append(at)
            elif row == ("again",):
                first = opened.pop()
                rows[at] = ("again", first)
                rows[first] = rows[first] + (at,)
        return rows

    def with_jumps(self, rows):
        """Give each jump and unless a row behind it that is inside the same repeats, or take a row in its place."""
        inside = [frozenset(first for first, row in enumerate(rows) if row[0] == "repeat" and first < at <= row[2])
                  for at in range(len(rows) + 1)]
        for at, row in enumerate(rows):
            if row[0] in ("jump", "unless"):
                targets = [other for other in range(at + 1, len(rows) + 1) if inside[other] == inside[at]]
                rows[at] = row + (self.one_of(targets),) if targets else self.plain()
        return rows


def drawn_code(seeds):
    """Return code that is accepted."""
    return [CodeDrawing(seed).code() for seed in seeds]


def spoiled(code, seed):
    """Return code with one number in one of its rows changed, or with two rows exchanged."""
    drawn = random.Random(seed)
    number = drawn.choice([at for at, routine in enumerate(code[2]) if routine])
    rows = list(code[2][number])
    at = drawn.randrange(len(rows))
    places = [place for place, part in enumerate(rows[at]) if isinstance(part, int)]
    if places and drawn.random() < 0.8:
        place = drawn.choice(places)
        other = max(0, drawn.choice([rows[at][place] + 1, rows[at][place] - 1, drawn.randrange(len(rows) + 2)]))
        rows[at] = rows[at][:place] + (other,) + rows[at][place + 1:]
    else:
        other = drawn.randrange(len(rows))
        rows[at], rows[other] = rows[other], rows[at]
    return (code[0], code[1], code[2][:number] + (tuple(rows),) + code[2][number + 1:])
