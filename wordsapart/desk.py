"""The desk: it keeps a list of words, and answers lines."""

from wordsapart.errors import Near, NoSize, NoWord
from wordsapart.lines import read_line
from wordsapart.papers import paper_tells
from wordsapart.picks import heard
from wordsapart.tables import table
from wordsapart.texts import show_list, show_paper
from wordsapart.waves import swells
from wordsapart.words import LONGEST, apart, counts, keeps

FARTHEST_JUDGED = 20


def or_none(number):
    """The number written, or none where there is none."""
    return "none" if number is None else str(number)


def numbers_written(numbers):
    """The numbers with a blank between."""
    return " ".join([str(number) for number in numbers])


def answer_signs(desk, q, n):
    """Begin again with q signs and length n."""
    if q not in LONGEST or not 1 <= n <= LONGEST[q]:
        raise NoSize("no such signs or length")
    desk.q = q
    desk.n = n
    desk.words = []
    return "ok"


def answer_put(desk, word):
    """Put the word into the list."""
    if word in desk.words:
        raise Near("the word is there already")
    desk.words.append(word)
    return "ok"


def answer_take(desk, word):
    """Take the word out of the list."""
    if word not in desk.words:
        raise NoWord("the word is not there")
    desk.words.remove(word)
    return "ok"


def answer_list(desk):
    """The list, rising."""
    return show_list(sorted(desk.words))


def answer_apart(desk):
    """The least distance of the list, or none."""
    return or_none(apart(desk.words))


def answer_counts(desk):
    """The counts of the list."""
    return numbers_written(counts(desk.n, desk.words))


def answer_swells(desk):
    """The swells of the list."""
    return numbers_written(swells(desk.q, desk.n, desk.words))


def answer_hear(desk, word):
    """The distance of the nearest words, and these."""
    if len(desk.words) == 0:
        raise NoWord("the list is empty")
    least, nearest = heard(desk.words, word)
    return f"{least} {show_list(nearest)}"


def answer_fits(desk, word, d):
    """Whether the list with the word put in keeps apart by d."""
    if d == 0:
        raise NoSize("no list is asked to keep apart by 0")
    fitting = word not in desk.words and keeps(desk.words + [word], d)
    return "yes" if fitting else "no"


def told_at(desk, d):
    """What the table of the desk's signs tells at the desk's length and d."""
    if not 1 <= d <= desk.n:
        raise NoSize("no such distance at this length")
    if desk.q not in desk.tables:
        desk.tables[desk.q] = table(desk.q)
    return desk.tables[desk.q][(desk.n, d)]


def answer_most(desk, d):
    """How many words the table's list has, and its number."""
    words, paper, number = told_at(desk, d)
    return f"{len(words)} {number}"


def answer_why(desk, d):
    """The table's paper."""
    words, paper, number = told_at(desk, d)
    return show_paper(paper)


def answer_judge(desk, d, paper):
    """What the paper tells, or none."""
    if not 1 <= d <= FARTHEST_JUDGED:
        raise NoSize("no such distance is judged")
    return or_none(paper_tells(desk.q, desk.n, d, paper))


ANSWERS = {
    "signs": answer_signs,
    "put": answer_put,
    "take": answer_take,
    "list": answer_list,
    "apart": answer_apart,
    "counts": answer_counts,
    "swells": answer_swells,
    "hear": answer_hear,
    "fits": answer_fits,
    "most": answer_most,
    "why": answer_why,
    "judge": answer_judge,
}


class Desk:
    """Keeps q, n and a list of words, and the tables that it has reckoned, by q."""

    def __init__(self):
        self.q = 2
        self.n = 4
        self.words = []
        self.tables = {}

    def say(self, line):
        """The answer to the line."""
        name, told = read_line(self.q, self.n, line)
        answer = ANSWERS[name]
        return answer(self, *told)
