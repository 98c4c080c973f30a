"""A desk: a crowd that is told deeds, and asked, by lines."""

from nearcall.errors import BadText, HallError, Missing, NothingLeft
from nearcall.rows import FIGURES, is_word, read_row, row_text
from nearcall.steering import steer

LONGEST_NUMBER = 6
DONE = "done"
NONE = "none"
NO_WAY = "no way"
WHAT = "what"

# How many words a line has that tells a deed word by word.
PLAIN_DEEDS = {"come": 3, "go": 2, "untell": 2, "bar": 2, "unbar": 2, "merge": 2}


def row_of(words):
    """The row that words tell, or None."""
    try:
        return read_row(" ".join(words))
    except BadText:
        return None


def tell_deed(words):
    row = row_of(words[2:])
    return None if row is None else ("tell", words[1], row)


def lead_deed(words, names):
    row = row_of(words)
    return None if row is None else ("lead", row, names)


def deed_of(words):
    """The deed that the words of a line tell, or None."""
    first = words[0]
    if first in PLAIN_DEEDS:
        return tuple(words) if len(words) == PLAIN_DEEDS[first] else None
    if first == "lead":
        return lead_deed(words[1:], ())
    if len(words) == 1:
        return None
    if first == "tell":
        return tell_deed(words)
    if first == "only":
        return lead_deed(words[2:], tuple(words[1].split(",")))
    if first == "put":
        return ("put", words[1], tuple(words[2:]))
    return None


def lead_line(deed):
    if not deed[2]:
        return "lead " + row_text(deed[1])
    return "only " + ",".join(deed[2]) + " " + row_text(deed[1])


def deed_line(deed):
    """The line that tells a deed."""
    if deed[0] == "tell":
        return "tell " + deed[1] + " " + row_text(deed[2])
    if deed[0] == "lead":
        return lead_line(deed)
    if deed[0] == "put":
        return " ".join(("put", deed[1]) + deed[2])
    return " ".join(deed)


def joined(words, between):
    return between.join(words) if words else NONE


def is_figures(word):
    """Whether a word is a number of at most six figures, without needless noughts."""
    return is_word(word, FIGURES, 1, LONGEST_NUMBER) and (word == "0" or word[0] != "0")


def steer_answer(hall, words):
    """Places of calls that lead from a room to another one."""
    if len(words) < 3 or any([word[0] != "." for word in words[3:]]):
        return WHAT
    places = steer(hall, [word[1:] for word in words[3:]], words[1], words[2])
    return NO_WAY if places is None else joined([str(place) for place in places], " ")


class Desk:
    """Answers lines about a crowd of its own."""

    def __init__(self, crowd):
        self.own = crowd.twin()

    def crowd(self):
        return self.own.twin()

    def say(self, line):
        """The answer to a line."""
        words = line.split(" ")
        if "" in words:
            return WHAT
        try:
            return self.answer(words)
        except (HallError, Missing, NothingLeft) as refusal:
            return "no " + refusal.word

    def answer(self, words):
        """The answer to a line of these words."""
        deed = deed_of(words)
        if deed is not None:
            self.own.do(deed)
            return DONE
        if words[0] == "steer":
            return steer_answer(self.own.hall(), words)
        if len(words) == 1:
            return self.answer_alone(words[0])
        if len(words) == 2:
            return self.answer_about(words[0], words[1])
        return WHAT

    def answer_alone(self, word):
        if word == "undo":
            return joined([deed_line(deed) for deed in self.own.undo()], "; ")
        if word == "redo":
            return joined([deed_line(deed) for deed in self.own.redo()], "; ")
        if word == "names":
            return joined(self.own.names(), " ")
        return WHAT

    def answer_about(self, word, told):
        if word == "strike" and is_figures(told):
            self.own.strike(int(told))
            return DONE
        if word == "where":
            return self.own.where(told)
        if word == "who":
            return joined(self.own.who(told), " ")
        if word == "blame":
            return joined([str(at) for at in self.own.blame(told)], " ")
        if word == "table":
            return str(self.own.table(told))
        return WHAT
