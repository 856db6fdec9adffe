"""Lines: what is told to a desk, read without a look at whether it can be done."""

from wordsapart.errors import NoLine, NoText
from wordsapart.texts import is_word, number_in, read_paper

MOST_FIGURES = 40
# What stands behind the first word of each line.
FORMS = {
    "signs": ("number", "number"),
    "put": ("word",),
    "take": ("word",),
    "list": (),
    "apart": (),
    "counts": (),
    "swells": (),
    "hear": ("word",),
    "fits": ("word", "number"),
    "most": ("number",),
    "why": ("number",),
    "judge": ("number and colon", "paper"),
}


def line_word(q, n, part):
    """The word of length n with q signs that the part is."""
    if not is_word(q, n, part):
        raise NoLine("not a word of this length with these signs")
    return part


def line_number(part):
    """The number that the part writes."""
    number = number_in(part, MOST_FIGURES)
    if number is None:
        raise NoLine("not a number")
    return number


def line_number_and_colon(part):
    """The number that the part writes with a colon behind it."""
    if not part.endswith(":"):
        raise NoLine("no colon behind the number")
    return line_number(part[:-1])


def line_paper(part):
    """The paper that the part writes."""
    try:
        return read_paper(part)
    except NoText:
        raise NoLine("not a paper") from None


def line_part(q, n, form, part):
    """What the part tells where this form is asked for."""
    if form == "word":
        return line_word(q, n, part)
    if form == "number":
        return line_number(part)
    if form == "number and colon":
        return line_number_and_colon(part)
    return line_paper(part)


def read_line(q, n, line):
    """The first word of the line, and the list of what is told behind it."""
    # No line has more than two parts behind its first word, and a paper, which has blanks of its own, is the second.
    name, *parts = line.split(" ", 2)
    if name not in FORMS:
        raise NoLine("no line begins so")
    if len(parts) != len(FORMS[name]):
        raise NoLine("too many or too few words or blanks")
    return name, [line_part(q, n, form, part) for form, part in zip(FORMS[name], parts)]
