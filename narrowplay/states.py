"""States: what the cells of tapes and the indexes hold, and what tests and plain commands have to do with them."""


class State:
    """What cells and indexes hold at a moment.

    Tapes and indexes go by any keys: by names in a program, by numbers in code. tapes has a list of
    letters and None for each tape, bounds the greatest number that each index may hold.
    """

    def __init__(self, tapes, bounds):
        self.tapes = tapes
        self.bounds = bounds
        self.numbers = {key: 0 for key in bounds}

    def has_cell(self, tape, index):
        """Return whether a tape has the cell with the number that an index holds."""
        return self.numbers[index] < len(self.tapes[tape])

    def held(self, tape, index):
        """Return the letter in a cell, None if it holds nothing or does not exist."""
        return self.tapes[tape][self.numbers[index]] if self.has_cell(tape, index) else None

    def puts(self, tape, index, letter):
        """Put a letter, or None for nothing, into a cell, if it exists."""
        if self.has_cell(tape, index):
            self.tapes[tape][self.numbers[index]] = letter

    def is_true(self, test):
        """Return whether a test is true."""
        wanted = True
        while test[0] == "not":
            wanted = not wanted
            test = test[1]
        return self.is_plainly_true(test) == wanted

    def is_plainly_true(self, test):
        """Return whether a test that is not a "not" is true."""
        match test:
            case ("is", tape, index, letter):
                return self.held(tape, index) == letter
            case ("equal", tape, index, other, at):
                here = self.held(tape, index)
                return here is not None and here == self.held(other, at)
            case ("empty", tape, index):
                return self.has_cell(tape, index) and self.held(tape, index) is None
            case ("inside", tape, index):
                return self.has_cell(tape, index)
        return self.numbers[test[1]] == self.numbers[test[2]]

    def does(self, command):
        """Do a command that changes one cell or one index and is no choice."""
        match command:
            case ("set", tape, index, letter):
                self.puts(tape, index, letter)
            case ("copy", tape, index, other, at):
                if self.has_cell(other, at):
                    self.puts(tape, index, self.held(other, at))
            case ("clear", tape, index):
                self.puts(tape, index, None)
            case ("zero", index):
                self.numbers[index] = 0
            case ("up", index):
                self.moves(index, self.numbers[index] + 1)
            case ("down", index):
                self.moves(index, self.numbers[index] - 1)
            case ("same", index, other):
                self.moves(index, self.numbers[other])

    def moves(self, index, number):
        """Let an index hold a number, or the nearest one from 0 to its bound."""
        self.numbers[index] = max(0, min(number, self.bounds[index]))
