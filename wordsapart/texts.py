"""Texts: lists and papers as they are written, and read again."""

from wordsapart.errors import NoText
from wordsapart.papers import LEADING
from wordsapart.words import SIGNS

FIGURES = "0123456789"
MOST_FIGURES = 60
MOST_MAKINGS = 12
# The makings that are written by their names alone.
PLAIN = ("one", "all", "balls")


def is_word(q, n, text):
    """Whether the text is a word of length n with q signs."""
    return len(text) == n and all(sign in SIGNS[:q] for sign in text)


def number_in(text, most):
    """The number that is written there, with so many figures at most, or None where none is."""
    if not 1 <= len(text) <= most or any(sign not in FIGURES for sign in text):
        return None
    if text[0] == "0" and text != "0":
        return None
    return int(text)


def show_list(words):
    """The words with a blank between, as they stand, or - for none."""
    return " ".join(words) if len(words) > 0 else "-"


def show_inmost(paper):
    """A paper that leads back to no other one, written."""
    if paper[0] in PLAIN:
        return paper[0]
    rows = show_list([str(row) for row in paper[2]])
    return f"waves {paper[1]}: {rows}"


def show_paper(paper):
    """The paper, written."""
    parts = []
    while paper[0] in LEADING:
        parts.append(paper[0])
        paper = paper[1]
    parts.append(show_inmost(paper))
    return " of ".join(parts)


def parts_in(text):
    """The parts between which a blank is written, none where - is written."""
    return [] if text == "-" else text.split(" ")


def read_list(q, n, text):
    """The list that is written there, in the text's order."""
    words = parts_in(text)
    if not all(is_word(q, n, word) for word in words):
        raise NoText("not a list of words of this length with these signs")
    if len(set(words)) != len(words):
        raise NoText("a word is there twice")
    return words


def read_number(text):
    """The number of a paper that is written there."""
    number = number_in(text, MOST_FIGURES)
    if number is None:
        raise NoText("not a number of a paper")
    return number


def read_inmost(text):
    """The paper that is written there, one that leads back to no other."""
    if text in PLAIN:
        return (text,)
    front, colon, rows = text.partition(": ")
    name, blank, times = front.partition(" ")
    if colon == "" or name != "waves":
        raise NoText("not a paper")
    return name, read_number(times), [read_number(row) for row in parts_in(rows)]


def read_paper(text):
    """The paper that is written there, of at most twelve makings."""
    *makings, inmost = text.split(" of ")
    if len(makings) + 1 > MOST_MAKINGS:
        raise NoText("more than twelve makings")
    if any(making not in LEADING for making in makings):
        raise NoText("not a making")
    paper = read_inmost(inmost)
    for making in makings[::-1]:
        paper = (making, paper)
    return paper
