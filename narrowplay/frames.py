"""Frames: texts of programs with gaps in them, which are words in capitals."""

from narrowplay.texts import read


def program_in(frame, gaps):
    """Return the program of a frame; gaps has the text for each of its gaps."""
    text = frame
    for gap, filling in gaps.items():
        text = text.replace(gap, filling)
    return read(text)
