"""Texts of scripts, written and read."""

from narrowplay.errors import BadScript, BadText
from narrowplay.lines import command_or_none, command_text, test_or_none, test_text
from narrowplay.polys import poly_or_none, poly_text
from narrowplay.scripts import is_name, is_script


def written(script):
    """Return the text of a script."""
    if not is_script(script):
        raise BadScript(script)
    tapes, indexes, procedures = script
    lines = [f"tape {name} size {poly_text(poly)}" for name, poly in tapes]
    lines.extend([f"index {name} to {poly_text(poly)}" for name, poly in indexes])
    for name, commands in procedures:
        lines.append(f"procedure {name}")
        lines.extend(block_lines(commands, "  "))
        lines.append("end")
    return "\n".join(lines)


def block_lines(commands, margin):
    """Return the lines of commands, each of them behind a margin."""
    lines = []
    for command in commands:
        lines.extend(command_lines(command, margin))
    return lines


def command_lines(command, margin):
    """Return the lines of one command, each of them behind a margin."""
    if command[0] == "if":
        lines = [f"{margin}if {test_text(command[1])}"]
        lines.extend(block_lines(command[2], margin + "  "))
        if command[3]:
            lines.append(f"{margin}else")
            lines.extend(block_lines(command[3], margin + "  "))
    elif command[0] == "repeat":
        lines = [f"{margin}repeat {poly_text(command[1])}"]
        lines.extend(block_lines(command[2], margin + "  "))
    else:
        return [margin + command_text(command)]
    lines.append(f"{margin}end")
    return lines


def read(text):
    """Return the script of a text."""
    if not isinstance(text, str):
        raise BadText(0)
    reader = Reader()
    lines = text.split("\n")
    for at, line in enumerate(lines, start=1):
        words = line.lstrip(" ")
        if words and not reader.takes(words):
            raise BadText(at)
    if reader.opened:
        raise BadText(len(lines) + 1)
    return (tuple(reader.tapes), tuple(reader.indexes), tuple(reader.procedures))


class Opened:
    """A procedure, an "if" or a "repeat" whose "end" has not been read."""

    def __init__(self, word, head):
        self.word = word
        self.head = head
        self.commands = []
        self.others = []
        self.has_else = False

    def block(self):
        """Return the list to which the next command belongs."""
        return self.others if self.has_else else self.commands

    def closed(self):
        """Return the command, or the pair of the procedure, that an "end" makes of it."""
        if self.word == "procedure":
            return (self.head, tuple(self.commands))
        if self.word == "repeat":
            return ("repeat", self.head, tuple(self.commands))
        return ("if", self.head, tuple(self.commands), tuple(self.others))


class Reader:
    """What has been read of a text so far.

    Whatever it has taken can be made whole by more lines, so the first line that it does not take is
    the first one with which no text can go on.
    """

    def __init__(self):
        self.tapes = []
        self.indexes = []
        self.procedures = []
        self.opened = []

    def takes(self, line):
        """Take a line without blanks at its beginning; return whether it can stand here."""
        if self.opened:
            return self.takes_within(line)
        return self.takes_outside(line)

    def takes_outside(self, line):
        """Take a line outside of all procedures."""
        match line.split(" ", 3):
            case ["tape", name, "size", text]:
                if self.indexes or self.procedures:
                    return False
                return self.takes_sized(self.tapes, name, text)
            case ["index", name, "to", text]:
                if self.procedures:
                    return False
                return self.takes_sized(self.indexes, name, text)
            case ["procedure", name]:
                return self.opens("procedure", name if is_name(name) else None)
        return False

    def takes_sized(self, pairs, name, text):
        """Take the name and the text of the polynomial of a tape or an index."""
        poly = poly_or_none(text)
        if poly is None or not is_name(name):
            return False
        pairs.append((name, poly))
        return True

    def takes_within(self, line):
        """Take a line within a procedure."""
        if line == "end":
            return self.closes()
        if line == "else":
            return self.turns()
        if line.startswith("if "):
            return self.opens("if", test_or_none(line[3:]))
        if line.startswith("repeat "):
            return self.opens("repeat", poly_or_none(line[7:]))
        command = command_or_none(line)
        if command is None:
            return False
        self.opened[-1].block().append(command)
        return True

    def opens(self, word, head):
        """Open a procedure, an "if" or a "repeat", unless what follows its word is None, that is, wrong."""
        if head is None:
            return False
        self.opened.append(Opened(word, head))
        return True

    def turns(self):
        """Take an "else"."""
        innermost = self.opened[-1]
        if innermost.word != "if" or innermost.has_else:
            return False
        innermost.has_else = True
        return True

    def closes(self):
        """Take an "end"."""
        whole = self.opened.pop().closed()
        if self.opened:
            self.opened[-1].block().append(whole)
        else:
            self.procedures.append(whole)
        return True
