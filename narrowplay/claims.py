"""The halving game on words: its choices, its claims, and who wins it from any picks."""

from narrowplay.basics import ALPHABET
from narrowplay.machines import depth, first_standing, picture_of, standing_after, standing_of
from narrowplay.polys import value_at


class Game:
    """The halving game of a machine and a word."""

    def __init__(self, machine, word):
        _, signs, rules, room = machine
        self.machine = machine
        self.signs = signs
        self.states = ALPHABET[:len(rules) + 2]
        # The last letter that the first B must have for one to win.
        self.accepting = ALPHABET[len(rules)]
        self.width = value_at(room, len(word))
        self.rounds = value_at(depth(machine), len(word))
        self.start = picture_of(first_standing(machine, word))
        # How many letters a picture has, and how many choices the game.
        self.length = len(self.start)
        self.many = self.length + self.rounds * (self.length + 1)
        self.orbits = {}

    def asked(self, number):
        """Return the pair of the player and the letters of the choice with a number, None behind the last one."""
        if number >= self.many:
            return None
        place = number if number < self.length else (number - self.length) % (self.length + 1)
        if place == self.length:
            return ("two", "lr")
        if place < self.width:
            return ("one", self.signs)
        return ("one", "ny" if place < 2 * self.width else self.states)

    def allows(self, picks):
        """Return whether a string gives possible choices, one after another."""
        return len(picks) <= self.many and all(letter in self.asked(at)[1] for at, letter in enumerate(picks))

    def rounds_done(self, picks):
        """Return how many rounds are complete."""
        return max(0, len(picks) - self.length) // (self.length + 1)

    def claim(self, picks):
        """Return the claim after the last complete round, None before the first B is complete."""
        if len(picks) < self.length:
            return None
        front = self.start
        back = picks[:self.length]
        for number in range(self.rounds_done(picks)):
            begin = self.length + number * (self.length + 1)
            middle = picks[begin:begin + self.length]
            if picks[begin + self.length] == "l":
                back = middle
            else:
                front = middle
        return (front, back)

    def winner(self, picks):
        """Return the player who wins from picks that are possible."""
        return "one" if self.one_wins(picks) else "two"

    def one_wins(self, picks):
        """Return whether one wins from picks that are possible."""
        if len(picks) < self.length:
            # All that comes up does so within the rounds that there are: they are enough for all standings.
            found = self.orbit(self.start).words
            return any(word.startswith(picks) and word[-1] == self.accepting for word in found)
        if picks[self.length - 1] != self.accepting:
            return False
        front, back = self.claim(picks)
        done = self.rounds_done(picks)
        begun = picks[self.length + done * (self.length + 1):]
        return self.orbit(front).is_within(back, self.rounds - done, begun)

    def orbit(self, word):
        """Return the orbit of a word."""
        # Kept, as the claims with each letter of a choice begin with the same word.
        if word not in self.orbits:
            self.orbits[word] = Orbit(self.machine, word)
        return self.orbits[word]


class Orbit:
    """The words to which a word leads, in order, each of them once; a word that is no picture leads to itself alone.

    back is the position of the word to which the last one leads in one step.
    """

    def __init__(self, machine, word):
        self.words = []
        self.places = {}
        standing = standing_of(machine, word)
        following = word
        while following not in self.places:
            self.places[following] = len(self.words)
            self.words.append(following)
            if standing is not None:
                standing = standing_after(machine, standing)
                following = picture_of(standing)
        self.back = self.places[following]

    def is_within(self, word, rounds, begun):
        """Return whether one wins the claim that the first word leads to a word, with some rounds left.

        begun has the letters of the middle that were chosen already.
        """
        if word not in self.places:
            return False
        goal = self.places[word]
        if rounds == 0:
            return self.is_near(0, goal, 1)
        half = 1 << (rounds - 1)
        middles = [at for at, middle in enumerate(self.words) if middle.startswith(begun)]
        return any(self.is_near(0, at, half) and self.is_near(at, goal, half) for at in middles)

    def is_near(self, start, goal, most):
        """Return whether the word at a position leads to that at another one within some steps."""
        steps = goal - start
        if steps < 0 and goal >= self.back:
            steps = steps + len(self.words) - self.back
        return 0 <= steps <= most
