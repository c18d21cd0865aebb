"""A shelf of games: who wins them, and programs in which they are played."""

from narrowplay.basics import ALPHABET, is_ascending, is_integer, is_letter
from narrowplay.errors import BadNumber, BadTies, BadWord
from narrowplay.frames import program_in
from narrowplay.polys import is_word

# The procedures of all games. While the index who is 0, one is to move.
TURNS = """
procedure loses
  if who = zero
    two wins
  end
  one wins
end
procedure asks
  if who = zero
    one chooses pick[zero] from LETTERS
  else
    two chooses pick[zero] from LETTERS
  end
end
procedure passes
  if who = zero
    up who
  else
    who = 0
  end
end
"""

TAKEAWAY = """
tape pick size 1
index things to n
index who to 1
index zero to 0
TURNS
procedure main
  repeat n
    up things
  end
  repeat n
    if things = zero
      do loses
    end
    do asks
    TAKES
    do passes
  end
  do loses
end
"""

# The tape left has the letters that are left, each of them as often as in the word.
TIES = """
tape left size n
tape place size 1
tape pick size 1
index i to n
index who to 1
index tied to 1
index found to 1
index zero to 0
TURNS
procedure main
  place[zero] = input[zero]
  repeat n
    if not input[i] equals place[zero]
      left[i] = input[i]
    end
    up i
  end
  repeat n
    do asks
    tied = 0
    LINKS
    if tied = zero
      do loses
    end
    found = 0
    i = 0
    repeat n
      if left[i] equals pick[zero]
        left[i] = empty
        up found
      end
      up i
    end
    if found = zero
      do loses
    end
    place[zero] = pick[zero]
    do passes
  end
  do loses
end
"""

# A letter stands for the domino that covers the cell with the letter's number and the cell behind it. More letters
# would serve longer rows, but each of them adds a play to each choice.
DOMINO_LETTERS = "abcdefghijklm"
DOMINOES = """
tape row size n
tape names size n
tape pick size 1
index i to n
index place to n
index behind to n
index who to 1
index zero to 0
TURNS
procedure covers
  if not row[place] empty
    do loses
  end
  row[place] = x
  up place
end
procedure main
  NAMES
  repeat n
    up behind
  end
  repeat n
    do asks
    place = behind
    i = 0
    repeat n
      if names[i] equals pick[zero]
        place = i
      end
      up i
    end
    do covers
    do covers
    do passes
  end
  do loses
end
"""


def takeaway_winner(k, things):
    """Return who wins taking away from so many things, with at most k in a move."""
    check_number(k, 1)
    check_number(things, 0)
    # From a multiple of k + 1 each move leads to a number that is none, and from there one leads back to one.
    return "two" if things % (k + 1) == 0 else "one"


def check_number(thing, least):
    """Raise the error for any value that is not an integer from a least one on."""
    if not is_integer(thing) or thing < least:
        raise BadNumber(thing)


def ties_winner(ties, word):
    """Return who wins going along ties on a word."""
    check_ties(ties)
    if not is_word(word):
        raise BadWord(word)
    place = word[:1]
    left = "".join([letter for letter in sorted(set(word)) if letter != place])
    return "one" if can_win(ties, place, left) else "two"


def check_ties(ties):
    """Raise the error for any value that is not ties."""
    if not are_ties(ties):
        raise BadTies(ties)


def are_ties(thing):
    """Return whether any value is ties."""
    return isinstance(thing, tuple) and all(is_tie(pair) for pair in thing) and is_ascending(thing)


def is_tie(thing):
    """Return whether any value is a pair of letters."""
    return isinstance(thing, tuple) and len(thing) == 2 and all(is_letter(part) for part in thing)


def can_win(ties, place, left):
    """Return whether the player who is to move from a place wins, with a string of the letters that are left."""
    targets = [letter for letter in left if (place, letter) in ties]
    return any(not can_win(ties, letter, left.replace(letter, "")) for letter in targets)


def domino_winner(cells):
    """Return who wins the dominoes on a row of so many free cells."""
    check_number(cells, 0)
    # A domino leaves two rows. Several rows together have as their number those of all of them joined by ^, and each
    # position has the least number that no move from it reaches: then the player to move wins unless it is 0.
    numbers = []
    for free in range(cells + 1):
        reached = [numbers[before] ^ numbers[free - 2 - before] for before in range(free - 1)]
        numbers.append(least_without(reached))
    return "one" if numbers[cells] > 0 else "two"


def least_without(numbers):
    """Return the least integer from 0 on that is not among some numbers."""
    least = 0
    while least in numbers:
        least = least + 1
    return least


def takeaway_program(k):
    """Return a program in which as many things as the word has letters are taken away, at most k in a move."""
    check_number(k, 1)
    letters = ALPHABET[:k]
    takes = [take_lines(letter, many) for many, letter in enumerate(letters, start=1)]
    return program_in(TAKEAWAY, {"TURNS": TURNS, "LETTERS": letters, "TAKES": "\n".join(takes)})


def take_lines(letter, many):
    """Return the lines that take so many things if a letter was chosen, one after another."""
    take = ["if things = zero", "do loses", "end", "down things"]
    return "\n".join([f"if pick[zero] is {letter}", f"repeat {many}", *take, "end", "end"])


def ties_program(ties):
    """Return a program in which the letters of the word are gone along ties."""
    check_ties(ties)
    if not ties:
        # There are no letters from which one could choose, and no moves.
        return ((), (), ())
    letters = "".join(sorted(set([letter for _, letter in ties])))
    places = sorted(set([place for place, _ in ties]))
    links = [link_lines(place, [letter for start, letter in ties if start == place]) for place in places]
    return program_in(TIES, {"TURNS": TURNS, "LETTERS": letters, "LINKS": "\n".join(links)})


def link_lines(place, letters):
    """Return the lines that find out whether the letter that was chosen has a tie from a place."""
    lines = [f"if place[zero] is {place}"]
    for letter in letters:
        lines.extend([f"if pick[zero] is {letter}", "up tied", "end"])
    lines.append("end")
    return "\n".join(lines)


def domino_program():
    """Return a program in which dominoes are put on a row of as many cells as the word has letters."""
    names = [f"names[i] = {letter}\nup i" for letter in DOMINO_LETTERS]
    return program_in(DOMINOES, {"TURNS": TURNS, "LETTERS": DOMINO_LETTERS, "NAMES": "\n".join(names)})
