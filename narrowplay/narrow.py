"""The narrow machine, and plans for code."""

from narrowplay.errors import BadPlayer
from narrowplay.runs import Run, checked_load
from narrowplay.scripts import is_player
from narrowplay.trees import best, ends, is_plan


def narrow(code, word):
    """Return the triple of the player who wins, the runs, and the most cells that were held at a moment."""
    machine = NarrowMachine(checked_load(code, word))
    player = machine.tells()
    return (player, machine.runs, machine.cells)


def code_plan(code, word):
    """Return the pair of the player who wins, and a plan of this player."""
    return best(checked_load(code, word), "")


def code_plan_holds(code, word, player, thing):
    """Return whether any value is a plan for a player."""
    loaded = checked_load(code, word)
    if not is_player(player):
        raise BadPlayer(player)
    return is_plan(loaded, "", player, thing)


def code_plays(code, word):
    """Return the ascending tuple of the pairs (picks, player) of all plays."""
    return tuple(sorted(ends(checked_load(code, word), "")))


class NarrowMachine:
    """The narrow machine: it keeps nothing but picks and one run, besides what it counts."""

    def __init__(self, loaded):
        self.loaded = loaded
        self.picks = ""
        self.runs = 0
        self.cells = 0

    def tells(self):
        """Go through the tree of plays, and return the player who wins it."""
        player = self.goes_down()
        while self.goes_up(player):
            player = self.goes_down()
        return player

    def goes_down(self):
        """Append first letters as long as the run asks; return the player who then has won."""
        told = self.run_once()
        while told[0] == "asks":
            self.picks = self.picks + told[2][0]
            told = self.run_once()
        return told[1]

    def goes_up(self, player):
        """Take letters off as long as a player wins all that is below; return whether there is a next letter to try."""
        while self.picks:
            letter = self.picks[-1]
            self.picks = self.picks[:-1]
            _, chooser, letters, _ = self.run_once()
            later = letters[letters.find(letter) + 1:]
            if chooser != player and later:
                self.picks = self.picks + later[0]
                return True
        return False

    def run_once(self):
        """Run the code with the picks, and return to what it comes."""
        done = Run(self.loaded, self.picks)
        self.runs = self.runs + 1
        self.cells = max(self.cells, done.cells)
        return done.result
