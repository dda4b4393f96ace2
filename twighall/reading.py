"""A ground, read from its text."""

from twighall.errors import NoText
from twighall.things import MOST_LENGTH, is_ground

FIGURES = "0123456789"


def read(text):
    words = text.split(" ")
    # Two words for the spots and four for each line: so each slice below holds a whole line.
    if len(words) % 4 != 2 or words[0] != "spots":
        raise NoText("this is no writing of spots and lines")
    lines = [line_of(words[place:place + 4]) for place in range(2, len(words), 4)]
    ground = (number_of(words[1]), tuple(lines))
    if not is_ground(ground):
        raise NoText("what is written is no ground")
    return ground


def line_of(words):
    if words[0] != "line":
        raise NoText("a line begins with the word line")
    return tuple([number_of(word) for word in words[1:]])


def number_of(word):
    # Python's own reading takes more than is ever written (signs, underscores, a 0 ahead), so it is asked last.
    if not is_number(word):
        raise NoText("this is no number of a ground")
    return int(word)


def is_number(word):
    # Nothing longer than the greatest length is written, and Python refuses to read very many figures.
    if word == "" or len(word) > len(str(MOST_LENGTH)):
        return False
    if word[0] == "0" and word != "0":
        return False
    return all([sign in FIGURES for sign in word])
