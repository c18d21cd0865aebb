"""The compiler: the code of a program, and the command from which each row comes."""

from narrowplay.code import INPUT_SIZE
from narrowplay.faults import check_program, names_of
from narrowplay.scripts import COMMANDS, TESTS


def compiled(program):
    """Return the code of a program."""
    check_program(program)
    tapes, indexes, _ = program
    sizes = (INPUT_SIZE,) + tuple([size for _, size in tapes])
    bounds = tuple([bound for _, bound in indexes])
    return (sizes, bounds, tuple([tuple(routine.rows) for routine in routines_of(program)]))


def code_map(program):
    """Return for each procedure the tuple of the paths of the commands from which its rows come."""
    check_program(program)
    return tuple([tuple(routine.paths) for routine in routines_of(program)])


def tape_number(program, name):
    """Return the number in the code of the tape that has any value as its name, None if there is none."""
    check_program(program)
    return position_of(name, tape_names(program))


def index_number(program, name):
    """Return the number in the code of the index that has any value as its name, None if there is none."""
    check_program(program)
    return position_of(name, names_of(program[1]))


def tape_names(program):
    """Return the names of all tapes, in the order of their numbers."""
    return ["input"] + names_of(program[0])


def position_of(name, names):
    """Return the position of any value in a list of names, None if it is none of them."""
    return names.index(name) if name in names else None


def positions(names):
    """Return a dict that gives for each of some names its position."""
    return {name: at for at, name in enumerate(names)}


def routines_of(program):
    """Return a written routine for each procedure of a program."""
    numbers = {
        "tape": positions(tape_names(program)),
        "index": positions(names_of(program[1])),
        "procedure": positions(names_of(program[2])),
    }
    routines = []
    for _, commands in program[2]:
        routine = Routine(numbers)
        routine.adds_block(commands, ())
        routines.append(routine)
    return routines


def numbered(whole, kinds, numbers):
    """Return a command or a test with numbers in place of the names among its parts."""
    parts = [numbers[kind][part] if kind in numbers else part for part, kind in zip(whole[1:], kinds)]
    return (whole[0],) + tuple(parts)


def numbered_test(test, numbers):
    """Return a test with numbers in place of names."""
    if test[0] == "not":
        return ("not", numbered_test(test[1], numbers))
    return numbered(test, TESTS[test[0]], numbers)


class Routine:
    """The rows that are written for a procedure, and the paths of the commands from which they come.

    numbers has for each kind of names the number of each name.
    """

    def __init__(self, numbers):
        self.numbers = numbers
        self.rows = []
        self.paths = []

    def adds(self, row, path):
        """Add a row that comes from the command at a path."""
        self.rows.append(row)
        self.paths.append(path)

    def adds_block(self, commands, path):
        """Add the rows of the block at a path."""
        for at, command in enumerate(commands):
            self.adds_command(command, path + (at,))

    def adds_command(self, command, path):
        """Add the rows of the command at a path."""
        match command:
            case ("if", _, _, _):
                self.adds_if(command, path)
            case ("repeat", poly, commands):
                self.adds_repeat(poly, commands, path)
            case ("do", name):
                self.adds(("call", self.numbers["procedure"][name]), path)
            case _:
                self.adds(numbered(command, COMMANDS[command[0]], self.numbers), path)

    def adds_if(self, command, path):
        """Add the rows of the "if" at a path."""
        _, test, commands, others = command
        first = len(self.rows)
        # Where these two rows go on is known only when the rows of the blocks are there.
        self.adds(None, path)
        self.adds_block(commands, path + (2,))
        after = len(self.rows)
        if others:
            self.adds(None, path)
            self.adds_block(others, path + (3,))
            self.rows[after] = ("jump", len(self.rows))
            after = after + 1
        self.rows[first] = ("unless", numbered_test(test, self.numbers), after)

    def adds_repeat(self, poly, commands, path):
        """Add the rows of the "repeat" at a path."""
        first = len(self.rows)
        self.adds(None, path)
        self.adds_block(commands, path + (2,))
        self.rows[first] = ("repeat", poly, len(self.rows))
        self.adds(("again", first), path)
