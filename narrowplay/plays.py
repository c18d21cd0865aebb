"""Plays of programs."""

from narrowplay.errors import BadPicks, BadWord
from narrowplay.faults import check_program
from narrowplay.polys import is_word, value_at
from narrowplay.states import State


def run(program, word, picks):
    """Return to what a play comes: that it is won, asks for a choice, or that a pick is wrong."""
    return checked_play(program, word, picks).result


def state_after(program, word, picks):
    """Return what the cells of each tape and the indexes hold when a play has ended or cannot go on."""
    state = checked_play(program, word, picks).state
    tapes, indexes, _ = program
    cells = tuple([tuple(state.tapes[name]) for name, _ in tapes])
    return (cells, tuple([state.numbers[name] for name, _ in indexes]))


def checked_play(program, word, picks):
    """Return a play that has gone on as far as it can, or raise the error for the first wrong value."""
    check_program_and_word(program, word)
    if not is_word(picks):
        raise BadPicks(picks)
    return Play(Setting(program, word), picks)


def check_program_and_word(program, word):
    """Raise the error for the first of two values that is not of its kind."""
    check_program(program)
    if not is_word(word):
        raise BadWord(word)


class Setting:
    """A program with a word: what is the same in all their plays."""

    def __init__(self, program, word):
        tapes, indexes, procedures = program
        self.word = word
        self.sizes = {name: value_at(poly, len(word)) for name, poly in tapes}
        self.bounds = {name: value_at(poly, len(word)) for name, poly in indexes}
        self.procedures = {name: commands for name, commands in procedures}
        self.main = procedures[-1][1] if procedures else ()
        self.rounds = {}

    def first_state(self):
        """Return the state at the beginning of a play."""
        tapes = {name: [None] * size for name, size in self.sizes.items()}
        tapes["input"] = list(self.word)
        return State(tapes, self.bounds)

    def rounds_of(self, poly):
        """Return the value of a polynomial at the length of the word."""
        # Kept, as a play may ask for the same one thousands of times.
        if poly not in self.rounds:
            self.rounds[poly] = value_at(poly, len(self.word))
        return self.rounds[poly]

    def told(self, picks):
        """Return to what the play with some picks comes."""
        return Play(self, picks).result


class Block:
    """A block that is being done, at the position of its next command.

    rounds tells how many rounds a loop has still to end; it is 0 for a block that is none.
    """

    def __init__(self, commands, rounds):
        self.commands = commands
        self.rounds = rounds
        self.at = 0


class Play:
    """A play that has gone on until it ended or could not go on.

    The blocks that are being done are kept in a list instead of by calls of functions, as procedures that
    do procedures can lie deeper within each other than Python's calls.
    """

    def __init__(self, setting, picks):
        self.setting = setting
        self.picks = picks
        self.state = setting.first_state()
        self.blocks = []
        self.steps = 0
        self.taken = 0
        self.result = None
        self.opens(setting.main, 0)
        while self.result is None:
            self.goes_on()

    def opens(self, commands, rounds):
        """Begin to do a block."""
        self.blocks.append(Block(commands, rounds))

    def goes_on(self):
        """Do the next command, or leave the innermost block at its end."""
        if not self.blocks:
            self.ends("two")
            return
        block = self.blocks[-1]
        if block.at < len(block.commands):
            block.at = block.at + 1
            self.does(block.commands[block.at - 1])
        else:
            self.closes(block)

    def closes(self, block):
        """Come to the end of the innermost block, and of one of its rounds if it is a loop."""
        if block.rounds > 0:
            self.steps = self.steps + 1
            block.rounds = block.rounds - 1
            block.at = 0
        if block.rounds == 0:
            self.blocks.pop()

    def does(self, command):
        """Do one command as far as it is not made of other commands, or come to a choice that cannot be made."""
        if command[0] == "choose":
            self.chooses(command)
            return
        self.steps = self.steps + 1
        match command:
            case ("if", test, commands, others):
                self.opens(commands if self.state.is_true(test) else others, 0)
            case ("repeat", poly, commands):
                rounds = self.setting.rounds_of(poly)
                if rounds > 0:
                    self.opens(commands, rounds)
            case ("do", name):
                self.opens(self.setting.procedures[name], 0)
            case ("wins", player):
                self.ends(player)
            case _:
                self.state.does(command)

    def chooses(self, command):
        """Take the letter of a choice, or find that there is none or a wrong one."""
        _, player, tape, index, letters = command
        if self.taken == len(self.picks):
            self.result = ("asks", player, letters, self.steps)
        elif self.picks[self.taken] not in letters:
            self.result = ("wrong", self.taken)
        else:
            self.state.puts(tape, index, self.picks[self.taken])
            self.steps = self.steps + 1
            self.taken = self.taken + 1

    def ends(self, player):
        """End the play."""
        self.result = ("won", player, self.steps, self.taken)
