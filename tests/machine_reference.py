"""Machines, their runs, pictures and depths, and the halving game once more, written apart from the package."""

import functools
import itertools
import random

from tests.play_reference import value

LETTERS = "abcdefghijklmnopqrstuvwxyz"


def first(machine, word):
    _, signs, _, room = machine
    cells = []
    for at in range(value(room, len(word))):
        cells.append(word[at] if at < len(word) and signs.count(word[at]) else signs[0])
    return (0, 0, "".join(cells))


def following(machine, standing):
    _, signs, rules, _ = machine
    state, head, cells = standing
    if state in (len(rules), len(rules) + 1):
        return standing
    tape = dict(enumerate(cells))
    for sign, rule in zip(signs, rules[state]):
        if sign == cells[head]:
            tape[head] = rule[1]
            place = head + rule[2]
            return (rule[0], place if place in tape else head, "".join(tape[at] for at in range(len(cells))))


def comes_up(machine, standing):
    """Return the list of all standings that come up, each once."""
    found = []
    while standing not in found:
        found.append(standing)
        standing = following(machine, standing)
    return found


def accepts(machine, word):
    return any(state == len(machine[2]) for state, _, _ in comes_up(machine, first(machine, word)))


def standings(machine, width):
    """Return all standings for a tape of some width."""
    _, signs, rules, _ = machine
    return [(state, head, "".join(cells)) for state in range(len(rules) + 2) for head in range(width)
            for cells in itertools.product(signs, repeat=width)]


def picture(standing):
    state, head, cells = standing
    marks = ["n"] * len(cells)
    marks[head] = "y"
    return cells + "".join(marks) + LETTERS[state]


def logarithm(number):
    exponent = 0
    while 2 ** exponent < number:
        exponent += 1
    return exponent


def depth_at(machine, length):
    _, signs, rules, room = machine
    return (logarithm(len(signs)) + 1) * value(room, length) + logarithm(len(rules) + 2)


class MachineDrawing:
    """Draws machines; with few states and signs they accept, reject and run for ever about as often."""

    def __init__(self, seed):
        self.random = random.Random(seed)

    def machine(self, rooms, most_signs=4, most_states=4, letters="abcnylrz"):
        many = self.random.randint(1, most_states)
        signs = "".join(sorted(self.random.sample(letters, self.random.randint(2, most_signs))))
        rules = tuple(tuple((self.random.randint(0, many + 1), self.random.choice(signs), self.random.choice([-1, 0, 1, 1]))
                            for _ in signs) for _ in range(many))
        return ("machine", signs, rules, self.random.choice(rooms))

    def word(self, machine, most):
        letters = machine[1] + "qz"
        return "".join(self.random.choice(letters) for _ in range(self.random.randint(0, most)))


def drawn_machines(seeds, rooms, **most):
    return [MachineDrawing(seed).machine(rooms, **most) for seed in seeds]


class Halving:
    """The halving game: [11.1], with all its choices in a list, and who wins it by looking at all words."""

    def __init__(self, machine, word):
        self.machine = machine
        self.width = value(machine[3], len(word))
        self.rounds = depth_at(machine, len(word))
        self.start = picture(first(machine, word))
        states = LETTERS[:len(machine[2]) + 2]
        self.accepting = states[-2]
        self.word = [("one", machine[1])] * self.width + [("one", "ny")] * self.width + [("one", states)]
        self.choices = self.word + (self.word + [("two", "lr")]) * self.rounds
        self.after = {picture(standing): picture(following(machine, standing)) for standing in standings(machine, self.width)}
        self.wins = functools.lru_cache(None)(self.wins_claim)

    def parts(self, picks):
        """Return the first B, the words and halves of the complete rounds, and the letters behind them."""
        size = len(self.word)
        rest = picks[size:]
        rounds = []
        while len(rest) > size:
            rounds.append((rest[:size], rest[size]))
            rest = rest[size + 1:]
        return (picks[:size], rounds, rest)

    def claim(self, picks):
        begin, rounds, _ = self.parts(picks)
        if len(begin) < len(self.word):
            return None
        claim = (self.start, begin)
        for middle, half in rounds:
            claim = {"l": (claim[0], middle), "r": (middle, claim[1])}[half]
        return claim

    def won(self, picks):
        begin, _, _ = self.parts(picks)
        front, back = self.claim(picks)
        right = front == back or (front in self.after and self.after[front] == back)
        return "one" if begin[-1] == self.accepting and right else "two"

    def words(self):
        return ["".join(letters) for letters in itertools.product(*[letters for _, letters in self.word])]

    def wins_claim(self, front, back, rounds):
        """Return whether one wins a claim with so many rounds left, by looking at all words in the middle."""
        if rounds == 0:
            return front == back or self.after.get(front) == back
        return any(self.wins(front, middle, rounds - 1) and self.wins(middle, back, rounds - 1) for middle in self.words())

    def winner(self, picks):
        begin, rounds, rest = self.parts(picks)
        left = self.rounds - len(rounds)
        if len(begin) < len(self.word):
            ends = [word for word in self.words() if word.startswith(begin) and word[-1] == self.accepting]
            return "one" if any(self.wins(self.start, word, left) for word in ends) else "two"
        if begin[-1] != self.accepting:
            return "two"
        front, back = self.claim(picks)
        if rest == "":
            return "one" if self.wins(front, back, left) else "two"
        middles = [word for word in self.words() if word.startswith(rest)]
        won = any(self.wins(front, middle, left - 1) and self.wins(middle, back, left - 1) for middle in middles)
        return "one" if won else "two"
