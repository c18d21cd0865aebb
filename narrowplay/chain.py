"""The whole chain, from the text of a program to the winner."""

from narrowplay.codebounds import code_cells
from narrowplay.compiler import compiled
from narrowplay.errors import BadWord
from narrowplay.narrow import narrow
from narrowplay.polys import is_word, value_at
from narrowplay.texts import read


def chain(text, word):
    """Return the winner of a text's program, the runs, the most cells that were held, and how many may be."""
    # What was read and is not a program is refused by the compiler, and code that is not accepted by its bounds.
    code = compiled(read(text))
    if not is_word(word):
        raise BadWord(word)
    most = value_at(code_cells(code), len(word))
    player, runs, cells = narrow(code, word)
    return (player, runs, cells, most)
