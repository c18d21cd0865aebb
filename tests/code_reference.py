"""Certificates, bounds and runs of code and the narrow machine once more, written apart from the package."""

from tests.play_reference import tree, value

# Certificates: [7.2] and [7.3], with sets of rows as the text has them.


def bodies(routine):
    """Return for each matched repeat the set of the rows of its body."""
    found = {}
    for at, row in enumerate(routine):
        if row[0] == "repeat":
            last = row[2]
            if last > at and last < len(routine) and repr(routine[last]) == repr(("again", at)):
                found[at] = set(range(at + 1, last + 1))
    return found


def inside(routine, at):
    return {repeat for repeat, body in bodies(routine).items() if at in body}


def numbers_of(row):
    """Return the numbers of tapes and those of indexes in a row or a test."""
    if row[0] == "unless":
        return numbers_of(row[1])
    if row[0] == "not":
        return numbers_of(row[1])
    places = {
        "set": ([1], [2]), "copy": ([1, 3], [2, 4]), "clear": ([1], [2]), "zero": ([], [1]), "up": ([], [1]), "down": ([], [1]),
        "same": ([], [1, 2]), "choose": ([2], [3]), "is": ([1], [2]), "equal": ([1, 3], [2, 4]), "empty": ([1], [2]),
        "inside": ([1], [2]), "at": ([], [1, 2]),
    }
    tapes, indexes = places.get(row[0], ([], []))
    return ([row[at] for at in tapes], [row[at] for at in indexes])


def reasons(code, number, at):
    """Return all reasons that apply to a row, in order."""
    routine = code[2][number]
    row = routine[at]
    tapes, indexes = numbers_of(row)
    found = []
    if [tape for tape in tapes if tape >= len(code[0])] or [index for index in indexes if index >= len(code[1])]:
        found.append("number")
    elif row[0] == "call" and row[1] >= number:
        found.append("number")
    if {"set": 1, "copy": 1, "clear": 1, "choose": 2}.get(row[0]) is not None and tapes[0] == 0:
        found.append("input")
    matched = bodies(routine)
    if row[0] == "again" and not (row[1] in matched and max(matched[row[1]]) == at):
        found.append("loop")
    if row[0] == "repeat":
        earlier = [matched[other] for other in matched if other < at]
        if at not in matched or [body for body in earlier if matched[at] & body and not matched[at] <= body]:
            found.append("loop")
    if row[0] in ("jump", "unless"):
        target = row[-1]
        if target <= at or target > len(routine) or inside(routine, target) != inside(routine, at):
            found.append("jump")
    return found


def certificate(code):
    for number, routine in enumerate(code[2]):
        for at in range(len(routine)):
            if reasons(code, number, at):
                return ("refused", number, at, reasons(code, number, at)[0])
    return ("accepted",)


# Bounds: [7.4], as numbers at a length.


def bounds(code, length):
    """Return the clock, the choices, the depth and the cells of accepted code at a length."""
    known = []
    for routine in code[2]:
        steps = picks = depth = 0
        for at, row in enumerate(routine):
            weight = 1
            for repeat in inside(routine, at):
                weight *= value(routine[repeat][1], length)
            called = known[row[1]] if row[0] == "call" else (0, 0, -1)
            steps += weight + weight * called[0]
            picks += weight * called[1] + (weight if row[0] == "choose" else 0)
            depth = max(depth, len(inside(routine, at)) + 1 + called[2])
        known.append((steps, picks, depth))
    steps, picks, depth = known[-1] if known else (0, 0, 0)
    held = sum(value(poly, length) for poly in code[0]) + len(code[1]) + depth + picks
    return (steps, picks, depth, held)


# Runs: [8.1] and [8.2].


class Stopped(Exception):

    def __init__(self, result):
        Exception.__init__(self)
        self.result = result


class Running:
    """A run; moments has the number of the cells that are held at each moment."""

    def __init__(self, code, word, picks):
        self.code = code
        self.word = word
        self.picks = picks
        sizes = [value(poly, len(word)) for poly in code[0]]
        self.tapes = [[None] * size for size in sizes]
        self.tapes[0] = list(word)
        self.bounds = [value(poly, len(word)) for poly in code[1]]
        self.indexes = [0] * len(self.bounds)
        self.loops = []
        self.stack = [(len(code[2]) - 1, 0)] if code[2] else []
        self.steps = 0
        self.taken = 0
        self.moments = []
        try:
            self.whole()
            self.told = ("won", "two", self.steps, self.taken)
        except Stopped as stop:
            self.told = stop.result
        self.cells = max(self.moments)

    def whole(self):
        self.moment()
        while self.stack:
            number, at = self.stack.pop()
            word, *parts = self.code[2][number][at]
            if word != "choose":
                self.steps += 1
            following = getattr(self, "row_" + word)(at, *parts)
            self.stack.append((number, at + 1 if following is None else following))
            if word == "call":
                self.stack.append((parts[0], 0))
            self.moment()

    def moment(self):
        """End what is at its end, and count the cells."""
        while self.stack and self.stack[-1][1] == len(self.code[2][self.stack[-1][0]]):
            self.stack.pop()
        calls = len(self.stack[1:])
        self.moments.append(sum(len(tape) for tape in self.tapes) + len(self.indexes) + len(self.loops) + calls + len(self.picks))

    def row_call(self, at, number):
        return None

    def exists(self, tape, index):
        return self.indexes[index] < len(self.tapes[tape])

    def letter(self, tape, index):
        return self.tapes[tape][self.indexes[index]]

    def truth(self, test):
        word, *parts = test
        if word == "not":
            return not self.truth(parts[0])
        if word == "at":
            return self.indexes[parts[0]] == self.indexes[parts[1]]
        if not self.exists(parts[0], parts[1]):
            return False
        letter = self.letter(parts[0], parts[1])
        if word == "equal":
            return letter is not None and self.exists(parts[2], parts[3]) and letter == self.letter(parts[2], parts[3])
        return {"inside": True, "empty": letter is None, "is": letter in parts[2:]}[word]

    def row_set(self, at, tape, index, letter):
        if self.exists(tape, index):
            self.tapes[tape][self.indexes[index]] = letter

    def row_copy(self, at, tape, index, other, by):
        if self.exists(tape, index) and self.exists(other, by):
            self.tapes[tape][self.indexes[index]] = self.letter(other, by)

    def row_clear(self, at, tape, index):
        self.row_set(at, tape, index, None)

    def row_zero(self, at, index):
        self.indexes[index] = 0

    def row_up(self, at, index):
        self.indexes[index] = min(self.indexes[index] + 1, self.bounds[index])

    def row_down(self, at, index):
        self.indexes[index] = max(self.indexes[index] - 1, 0)

    def row_same(self, at, index, other):
        self.indexes[index] = min(self.indexes[other], self.bounds[index])

    def row_choose(self, at, player, tape, index, letters):
        if self.taken == len(self.picks):
            raise Stopped(("asks", player, letters, self.steps))
        letter = self.picks[self.taken]
        if letter not in list(letters):
            raise Stopped(("wrong", self.taken))
        self.steps += 1
        self.taken += 1
        self.row_set(at, tape, index, letter)

    def row_wins(self, at, player):
        raise Stopped(("won", player, self.steps, self.taken))

    def row_jump(self, at, target):
        return target

    def row_unless(self, at, test, target):
        return None if self.truth(test) else target

    def row_repeat(self, at, poly, last):
        rounds = value(poly, len(self.word))
        if rounds == 0:
            return last + 1
        self.loops.append(rounds)
        return None

    def row_again(self, at, first):
        self.loops[-1] -= 1
        if self.loops[-1]:
            return first + 1
        self.loops.pop()
        return None


def code_tree(code, word):
    return tree(lambda picks: Running(code, word, picks).told)


# The narrow machine: [8.3], going from step to step by their numbers.


def narrow(code, word):
    picks = ""
    runs = most = 0
    step = 1
    won = None
    while True:
        if step == 2:
            if picks == "":
                return (won, runs, most)
            last, picks = picks[-1], picks[:-1]
        run = Running(code, word, picks)
        runs += 1
        most = max(most, run.cells)
        if step == 1 and run.told[0] == "asks":
            picks += run.told[2][:1]
        elif step == 1:
            won = run.told[1]
            step = 2
        else:
            _, chooser, letters, _ = run.told
            after = [letter for letter in letters if letter > last]
            if chooser != won and after:
                picks += after[0]
                step = 1
