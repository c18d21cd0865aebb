"""The program of the halving game, as a frame."""

from narrowplay.basics import ALPHABET
from narrowplay.frames import program_in
from narrowplay.machines import depth
from narrowplay.polys import constant, poly_text, sum_of

# The tapes that begin with a, b and m have the parts of the words A, B and M: the cells, where the head is, the state.
# An index to 1 is a flag.
FRAME = """
tape acells size WIDTH
tape aheads size WIDTH
tape astate size 1
tape bcells size WIDTH
tape bheads size WIDTH
tape bstate size 1
tape mcells size WIDTH
tape mheads size WIDTH
tape mstate size 1
tape half size 1
tape sign size 1
tape state size 1
index i to BEHIND
index head to BEHIND
index zero to 0
index accepted to 1
index found to 1
index differ to 1
procedure begin
  repeat WIDTH
    acells[i] = BLANK
    aheads[i] = n
    COPIES
    up i
  end
  aheads[zero] = y
  astate[zero] = a
end
procedure claim
  i = 0
  repeat WIDTH
    one chooses mcells[i] from SIGNS
    up i
  end
  i = 0
  repeat WIDTH
    one chooses mheads[i] from ny
    up i
  end
  one chooses mstate[zero] from STATES
end
procedure lefthalf
  i = 0
  repeat WIDTH
    bcells[i] = mcells[i]
    bheads[i] = mheads[i]
    up i
  end
  bstate[zero] = mstate[zero]
end
procedure righthalf
  i = 0
  repeat WIDTH
    acells[i] = mcells[i]
    aheads[i] = mheads[i]
    up i
  end
  astate[zero] = mstate[zero]
end
procedure compare
  i = 0
  differ = 0
  repeat WIDTH
    if not acells[i] equals bcells[i]
      up differ
    end
    if not aheads[i] equals bheads[i]
      up differ
    end
    up i
  end
  if not astate[zero] equals bstate[zero]
    up differ
  end
  if differ = zero
    one wins
  end
end
procedure seek
  i = 0
  repeat WIDTH
    if aheads[i] is y
      if not found = zero
        two wins
      end
      up found
      head = i
    end
    up i
  end
  if found = zero
    two wins
  end
end
procedure step
  sign[zero] = acells[head]
  state[zero] = astate[zero]
  aheads[head] = n
  RULES
  aheads[head] = y
end
procedure main
  do begin
  do claim
  do lefthalf
  if bstate[zero] is ACCEPTING
    up accepted
  end
  repeat ROUNDS
    do claim
    two chooses half[zero] from lr
    if half[zero] is l
      do lefthalf
    else
      do righthalf
    end
  end
  if accepted = zero
    two wins
  end
  do compare
  do seek
  do step
  do compare
end
"""

# The line for each move, if any. An index stays at its bounds, as the head does at the ends of the tape.
MOVES = {-1: ("down head",), 0: (), 1: ("up head",)}


def program_of_game(machine):
    """Return a program that has the plays of the halving game of a machine."""
    _, signs, rules, room = machine
    gaps = {
        "WIDTH": poly_text(room),
        "BEHIND": poly_text(one_less(room)),
        "ROUNDS": poly_text(depth(machine)),
        "BLANK": signs[0],
        "SIGNS": signs,
        "STATES": ALPHABET[:len(rules) + 2],
        "ACCEPTING": ALPHABET[len(rules)],
        "COPIES": "\n".join(copy_lines(signs)),
        "RULES": "\n".join(rules_lines(signs, rules)),
    }
    return program_in(FRAME, gaps)


def one_less(room):
    """Return the polynomial whose values are 1 less than those of the room of a machine."""
    return sum_of(constant(room[0][1] - 1), room[1:])


def copy_lines(signs):
    """Return the lines that copy a letter of the input, if it is a sign other than the blank."""
    lines = []
    for sign in signs[1:]:
        lines.extend([f"if input[i] is {sign}", f"acells[i] = {sign}", "end"])
    return lines


def rules_lines(signs, rules):
    """Return the lines that apply the rule for the state and the sign that were read."""
    lines = []
    for letter, state in zip(ALPHABET, rules):
        lines.append(f"if state[zero] is {letter}")
        for sign, rule in zip(signs, state):
            lines.append(f"if sign[zero] is {sign}")
            lines.extend(rule_lines(rule))
            lines.append("end")
        lines.append("end")
    return lines


def rule_lines(rule):
    """Return the lines that apply a rule to the cell at the head, the head and the state."""
    following, sign, move = rule
    return [f"acells[head] = {sign}", *MOVES[move], f"astate[zero] = {ALPHABET[following]}"]
