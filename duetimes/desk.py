"""The desk: a gate that is told rows of words, and answers with texts."""

from duetimes.checker import holds
from duetimes.crewtexts import is_figures, member_of_row, number_of
from duetimes.errors import NoRow, NoText
from duetimes.gates import Gate
from duetimes.papers import paper_in
from duetimes.worst import worst

MOST_FIGURES = 9


def number_in(word):
    """The number that a word of a row tells."""
    if len(word) > MOST_FIGURES or not is_figures(word):
        raise NoRow("this should be a number")
    return number_of(word)


def listed(rows):
    """Rows as one text, or `none`."""
    if not rows:
        return "none"
    return "; ".join([" ".join([str(part) for part in row]) for row in rows])


def let_answer(gate, words):
    """`let MEMBER`."""
    member = member_of_row(" ".join(words))
    if member is None:
        raise NoText(0)
    return gate.let_in(member)


def leave_answer(gate, words):
    """`leave NAME`."""
    gate.leave(words[0])
    return "ok"


def come_answer(gate, words):
    """`come NAME`, `come NAME NEED`."""
    need = number_in(words[1]) if len(words) == 2 else None
    return str(gate.come(words[0], need=need))


def go_answer(gate, words):
    """`go MOMENTS`."""
    return listed(gate.go(number_in(words[0])))


def by_answer(gate, words):
    """`by NAME NEED`."""
    return str(gate.by_when(words[0], number_in(words[1])))


def point_answer(gate, words):
    """`point`."""
    return str(gate.point())


def members_answer(gate, words):
    """`members`."""
    return " | ".join([" ".join(names) if names else "-" for names in gate.who()])


def works_answer(gate, words):
    """`works`."""
    return listed([(name, number, done) for name, number, comes, done in gate.waiting_works()])


def load_answer(gate, words):
    """`load`."""
    top, bottom = gate.crew_in().load()
    return f"{top}/{bottom}"


def longest_answer(gate, words):
    """`longest NAME`."""
    return str(worst(gate.crew_in(), words[0])[0])


def paper_answer(gate, words):
    """`paper`."""
    claim, paper = paper_in(gate.crew_in())
    return "holds" if claim[0] == "in" and holds(claim, paper) else "no"


ANSWERS = {
    "let": let_answer,
    "leave": leave_answer,
    "come": come_answer,
    "go": go_answer,
    "by": by_answer,
    "point": point_answer,
    "members": members_answer,
    "works": works_answer,
    "load": load_answer,
    "longest": longest_answer,
    "paper": paper_answer,
}
# How few and how many words may stand behind the first one; None for any number.
BEHIND = {
    "let": (1, None),
    "leave": (1, 1),
    "come": (1, 2),
    "go": (1, 1),
    "by": (2, 2),
    "point": (0, 0),
    "members": (0, 0),
    "works": (0, 0),
    "load": (0, 0),
    "longest": (1, 1),
    "paper": (0, 0),
}


def may_follow(word, many):
    """Whether so many words may stand behind a word."""
    if word not in BEHIND:
        return False
    fewest, most = BEHIND[word]
    return many >= fewest and (most is None or many <= most)


class Desk:
    """Keeps a gate."""

    def __init__(self):
        self.gate = Gate()

    def say(self, row):
        """The answer to a row."""
        if not isinstance(row, str):
            raise NoRow("this is no text")
        word, *words = row.split(" ")
        if not may_follow(word, len(words)):
            raise NoRow("the desk knows no such row")
        answer = ANSWERS[word]
        return answer(self.gate, words)
