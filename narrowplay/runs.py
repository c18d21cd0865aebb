"""Runs of the plain machine."""

from narrowplay.code import check_code
from narrowplay.errors import BadPicks, BadWord
from narrowplay.polys import is_word, value_at
from narrowplay.states import State


def run_code(code, word, picks):
    """Return to what a run comes: that it is won, asks for a choice, or that a pick is wrong."""
    return checked_run(code, word, picks).result


def cells_held(code, word, picks):
    """Return the greatest number of cells that are held at a moment of a run."""
    done = checked_run(code, word, picks)
    if done.result[0] == "wrong":
        raise BadPicks(picks)
    return done.cells


def checked_run(code, word, picks):
    """Return a run that has gone on as far as it can, or raise the error for the first wrong value."""
    loaded = checked_load(code, word)
    if not is_word(picks):
        raise BadPicks(picks)
    return Run(loaded, picks)


def checked_load(code, word):
    """Return code with a word, ready for runs, or raise the error for the first wrong one of them."""
    check_code(code)
    if not is_word(word):
        raise BadWord(word)
    return Loaded(code, word)


class Loaded:
    """Code with a word: what is the same in all their runs."""

    def __init__(self, code, word):
        tapes, indexes, self.routines = code
        self.word = word
        self.sizes = [value_at(poly, len(word)) for poly in tapes]
        self.bounds = {at: value_at(poly, len(word)) for at, poly in enumerate(indexes)}
        self.rounds = {}

    def first_state(self):
        """Return the state at the beginning of a run."""
        tapes = {at: [None] * size for at, size in enumerate(self.sizes)}
        tapes[0] = list(self.word)
        return State(tapes, self.bounds)

    def rounds_of(self, poly):
        """Return the value of a polynomial at the length of the word."""
        # Kept, as a run may ask for the same one thousands of times.
        if poly not in self.rounds:
            self.rounds[poly] = value_at(poly, len(self.word))
        return self.rounds[poly]

    def told(self, picks):
        """Return to what the run with some picks comes."""
        return Run(self, picks).result


class Place:
    """A routine that is being done, at the number of its next row."""

    def __init__(self, rows):
        self.rows = rows
        self.at = 0


class Run:
    """A run that has gone on until it ended or could not go on, and the most cells that it held at a moment."""

    def __init__(self, loaded, picks):
        self.loaded = loaded
        self.picks = picks
        self.state = loaded.first_state()
        self.places = []
        self.loops = []
        # The cells that are held at all moments: of the tapes, the indexes and the picks.
        self.always = sum(loaded.sizes) + len(loaded.bounds) + len(picks)
        self.steps = 0
        self.taken = 0
        self.cells = 0
        self.result = None
        if loaded.routines:
            self.places.append(Place(loaded.routines[-1]))
        self.leaves()
        self.measures()
        while self.result is None:
            self.goes_on()

    def goes_on(self):
        """Execute the next row, or end behind the main routine."""
        if not self.places:
            self.ends("two")
            return
        place = self.places[-1]
        place.at = place.at + 1
        self.executes(place.rows[place.at - 1], place)
        self.leaves()
        self.measures()

    def leaves(self):
        """Leave each routine that is at its end."""
        while self.places and self.places[-1].at == len(self.places[-1].rows):
            self.places.pop()

    def measures(self):
        """Take note of the cells that are held at this moment."""
        # The main routine was not called.
        calls = max(0, len(self.places) - 1)
        self.cells = max(self.cells, self.always + len(self.loops) + calls)

    def executes(self, row, place):
        """Execute a row, or come to a choice that cannot be made; place is already at the next row."""
        if row[0] == "choose":
            self.chooses(row)
            return
        self.steps = self.steps + 1
        match row:
            case ("jump", target):
                place.at = target
            case ("unless", test, target):
                if not self.state.is_true(test):
                    place.at = target
            case ("repeat", poly, last):
                self.repeats(self.loaded.rounds_of(poly), last, place)
            case ("again", first):
                self.repeats_again(first, place)
            case ("call", number):
                self.places.append(Place(self.loaded.routines[number]))
            case ("wins", player):
                self.ends(player)
            case _:
                self.state.does(row)

    def repeats(self, rounds, last, place):
        """Open a loop, or go on behind it if it has no rounds."""
        if rounds > 0:
            self.loops.append(rounds)
        else:
            place.at = last + 1

    def repeats_again(self, first, place):
        """Come to the end of a round of the innermost open loop, and close it if it was the last one."""
        rounds = self.loops.pop() - 1
        if rounds > 0:
            self.loops.append(rounds)
            place.at = first + 1

    def chooses(self, row):
        """Take the letter of a choice, or find that there is none or a wrong one."""
        _, player, tape, index, letters = row
        if self.taken == len(self.picks):
            self.result = ("asks", player, letters, self.steps)
        elif self.picks[self.taken] not in letters:
            self.result = ("wrong", self.taken)
        else:
            self.state.puts(tape, index, self.picks[self.taken])
            self.steps = self.steps + 1
            self.taken = self.taken + 1

    def ends(self, player):
        """End the run."""
        self.result = ("won", player, self.steps, self.taken)
