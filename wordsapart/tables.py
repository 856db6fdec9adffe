"""The table of all lists and papers, and the places at which they meet."""

from wordsapart.makings import beside, cut, longer, pairs, shorter, sums
from wordsapart.papers import LEADING, paper_tells
from wordsapart.picks import in_order
from wordsapart.spans import span
from wordsapart.texts import read_paper
from wordsapart.weights import least_weights
from wordsapart.words import LONGEST, all_words
from wordsapart.written import WRITTEN


def all_places(q):
    """The places (n, d) of the table, by n, then d."""
    return [(n, d) for n in range(1, LONGEST[q] + 1) for d in range(1, n + 1)]


def made_of_one(q, n, d, lists):
    """Lists for the place that are made of one of the lists."""
    made = []
    if (n, d + 1) in lists:
        made.append(lists[(n, d + 1)])
    if (n + 1, d + 1) in lists:
        made.append(cut(lists[(n + 1, d + 1)]))
    if (n + 1, d) in lists:
        made.append(shorter(q, lists[(n + 1, d)]))
    # One sign more lifts odd distances for two signs, and for three signs the distance 1 alone.
    if (n - 1, d - 1) in lists and (d == 2 or (q == 2 and d % 2 == 0)):
        made.append(longer(q, lists[(n - 1, d - 1)]))
    return made


def made_of_two(q, n, d, lists):
    """Lists for the place that are made of two of the lists."""
    made = []
    for front in range(1, n):
        back = n - front
        for near in range(1, d):
            if (front, near) in lists and (back, d - near) in lists:
                made.append(beside(lists[(front, near)], lists[(back, d - near)]))
        # Lists for greater distances have no more words once the table is shut, so the least ones that do are enough:
        # d for both here, and below half of d, rounded up, for the one that counts twice.
        if (front, d) in lists and (back, d) in lists:
            made.append(pairs(lists[(front, d)], lists[(back, d)]))
        if front == back and (front, d) in lists:
            made.append(sums(q, lists[(front, (d + 1) // 2)], lists[(front, d)]))
    return made


def lengthen(q, lists):
    """Put a longer list at each place for which one is made of the others; tells whether there was one."""
    found = False
    for n, d in all_places(q):
        made = made_of_one(q, n, d, lists) + made_of_two(q, n, d, lists)
        longest = max(made, key=len, default=[])
        if len(longest) > len(lists[(n, d)]):
            lists[(n, d)] = longest
            found = True
    return found


def shut_lists(q):
    """A list for each place, such that nothing that is made of them is longer."""
    lists = {(n, d): in_order(q, n, d) for n, d in all_places(q)}
    while lengthen(q, lists):
        pass
    return lists


def first_papers(q, n, d):
    """The papers for the place that lead back to no other place."""
    value, (times, rows), shares = least_weights(q, n, d)
    return [("all",), ("balls",), ("waves", times, rows)]


def papers_led_back(q, n, d, papers):
    """The papers for the place that lead back to one of the papers."""
    led = []
    if (n, d - 1) in papers:
        led.append(("nearer", papers[(n, d - 1)]))
    if (n - 1, d - 1) in papers:
        led.append(("cut", papers[(n - 1, d - 1)]))
    if (n - 1, d) in papers:
        led.append(("shorter", papers[(n - 1, d)]))
    if d == n and n >= 2:
        led.append(("shorter", ("one",)))
    if q == 2 and d % 2 == 1 and (n + 1, d + 1) in papers:
        led.append(("longer", papers[(n + 1, d + 1)]))
    return led


def least_paper(q, n, d, papers):
    """The paper that tells the least for the place, of several the first."""
    return min(papers, key=lambda paper: paper_tells(q, n, d, paper))


def lessen(q, papers):
    """Put a paper that tells less at each place for which one leads back to the others; tells whether there was one."""
    found = False
    for n, d in all_places(q):
        held = papers[(n, d)]
        least = least_paper(q, n, d, [held] + papers_led_back(q, n, d, papers))
        if paper_tells(q, n, d, least) < paper_tells(q, n, d, held):
            papers[(n, d)] = least
            found = True
    return found


def shut_papers(q):
    """A paper for each place, such that nothing that leads back to them tells less."""
    papers = {(n, d): least_paper(q, n, d, first_papers(q, n, d)) for n, d in all_places(q)}
    while lessen(q, papers):
        pass
    return papers


def own_paper(paper):
    """The same paper with a list of rows of its own."""
    if paper[0] == "waves":
        return paper[0], paper[1], list(paper[2])
    if paper[0] in LEADING:
        return paper[0], own_paper(paper[1])
    return paper


def reckoned(q):
    """The table of q, reckoned from the ground up."""
    # Far too slow for each asking: what this tells stands in wordsapart.written, and the tests hold the two together.
    lists = shut_lists(q)
    papers = shut_papers(q)
    told = {}
    for n, d in all_places(q):
        # One list may have come to several places, and one paper may stand within others: each gets its own.
        paper = own_paper(papers[(n, d)])
        told[(n, d)] = (sorted(lists[(n, d)]), paper, paper_tells(q, n, d, paper))
    return told


def written_list(q, n, text):
    """The list that is written by a base of which it is the span, or as all words."""
    # All words could be written by a base like the others, but would take longer than all other lists together.
    return all_words(q, n) if text == "all" else span(q, n, text.split(" "))


def table(q):
    """For each place (n, d), by n, then d, a list that keeps apart by d, a paper, and the number that it tells."""
    # Plain texts are read anew each time, so each list that is told is the asker's own.
    told = {}
    # Of other numbers of signs no row is written: their tables are empty, since none are promised, but no error.
    for n, d, words, paper, number in WRITTEN.get(q, ()):
        told[(n, d)] = (written_list(q, n, words), read_paper(paper), number)
    return told


def met(q):
    """The places at which the list has as many words as the number tells, by n, then d."""
    return [place for place, (words, paper, number) in table(q).items() if len(words) == number]
