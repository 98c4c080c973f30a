"""Rows of steps, as trees and as texts."""

from nearcall.errors import BadText, BadTree

MOST_STEPS = 60
MOST_DEEP = 12
MOST_TIMES = 10 ** 30
MOST_SIDES = 12
LONGEST_NAME = 8

SMALL = "abcdefghijklmnopqrstuvwxyz"
LETTERS = "abcdefghijklmnopqrstuvwxyzABCDEFGHIJKLMNOPQRSTUVWXYZ"
FIGURES = "0123456789"


def is_word(thing, letters, fewest, most):
    """Whether a thing is a text of so many of these letters."""
    if not isinstance(thing, str) or not fewest <= len(thing) <= most:
        return False
    return all([sign in letters for sign in thing])


def is_name(thing):
    return is_word(thing, SMALL, 1, LONGEST_NAME)


def is_number(thing, most):
    """Whether a thing is a number from 0 to the most."""
    if not isinstance(thing, int) or isinstance(thing, bool):
        return False
    return 0 <= thing <= most


def is_tuple_of(thing, many):
    return isinstance(thing, tuple) and len(thing) == many


def is_plain_step(step):
    """Whether a thing is a step that is no group."""
    if not is_tuple_of(step, 2):
        return False
    if step[0] == "call":
        return is_word(step[1], LETTERS, 0, MOST_SIDES)
    if step[0] == "turn":
        return is_word(step[1], LETTERS, 1, MOST_SIDES)
    return step[0] == "row" and is_name(step[1])


def is_group_head(step):
    """Whether a thing is a group, whatever stands in the place of its row."""
    return is_tuple_of(step, 3) and step[0] == "times" and is_number(step[1], MOST_TIMES)


def left_behind_step(step, deep, left):
    """How many more steps may stand behind a thing, where so many may from it on; below 0 where it may not stand."""
    if is_plain_step(step):
        return left - 1
    if deep == MOST_DEEP or not is_group_head(step):
        return -1
    return left_behind(step[2], deep + 1, left - 1)


def left_behind(row, deep, left):
    """How many more steps may stand behind a thing in the place of a row; below 0 where it may not stand there."""
    if not is_tuple_of(row, 2) or row[0] != "steps" or not isinstance(row[1], tuple):
        return -1
    for step in row[1]:
        left = left_behind_step(step, deep, left)
        # At once: the same tuple may stand in a tree so often that it can't be looked at to the end.
        if left < 0:
            return -1
    return left


def is_row(tree):
    return left_behind(tree, 0, MOST_STEPS) >= 0


def check_row(tree):
    if not is_row(tree):
        raise BadTree()


def step_text(step):
    if step[0] == "call":
        return "." + step[1]
    if step[0] == "turn":
        return "~" + step[1]
    if step[0] == "row":
        return "<" + step[1] + ">"
    return "(" + text_of(step[2]) + ")*" + str(step[1])


def text_of(row):
    """The text of a tree that is a row."""
    if not row[1]:
        return "-"
    return " ".join([step_text(step) for step in row[1]])


def row_text(tree):
    check_row(tree)
    return text_of(tree)


class Reader:
    """A text on the way through it: at is the place of the first sign that isn't read yet."""

    def __init__(self, text):
        self.text = text
        self.at = 0
        self.begun = 0

    def sign(self):
        """The next sign, or the text of no signs at the end."""
        return self.text[self.at:self.at + 1]

    def stands(self, signs):
        """Whether the next sign is one of these."""
        return self.at < len(self.text) and self.text[self.at] in signs

    def take(self, signs):
        """Reads one of these signs."""
        if not self.stands(signs):
            raise BadText(self.at)
        taken = self.sign()
        self.at += 1
        return taken

    def letters_taken(self, letters, fewest, most):
        """Reads as many letters as stand there, but not more than most."""
        taken = ""
        while len(taken) < fewest or len(taken) < most and self.stands(letters):
            taken += self.take(letters)
        return taken

    def number(self):
        """Reads a number from 0 to MOST_TIMES; behind a nought stands no other figure."""
        many = int(self.take(FIGURES))
        while many > 0 and self.stands(FIGURES):
            many = 10 * many + int(self.sign())
            if many > MOST_TIMES:
                raise BadText(self.at)
            self.at += 1
        return many

    def group(self, deep):
        """Reads a group from behind its opening bracket on."""
        row = self.row(deep + 1)
        self.take(")")
        self.take("*")
        return ("times", self.number(), row)

    def step(self, deep):
        """Reads a step that has so many groups around it."""
        if self.begun == MOST_STEPS:
            raise BadText(self.at)
        self.begun += 1
        first = self.take(".~<(" if deep < MOST_DEEP else ".~<")
        if first == ".":
            return ("call", self.letters_taken(LETTERS, 0, MOST_SIDES))
        if first == "~":
            return ("turn", self.letters_taken(LETTERS, 1, MOST_SIDES))
        if first == "(":
            return self.group(deep)
        called = self.letters_taken(SMALL, 1, LONGEST_NAME)
        self.take(">")
        return ("row", called)

    def row(self, deep):
        """Reads a row that has so many groups around it."""
        if self.stands("-"):
            self.take("-")
            return ("steps", ())
        found = [self.step(deep)]
        while self.stands(" "):
            self.take(" ")
            found.append(self.step(deep))
        return ("steps", tuple(found))


def read_row(text):
    """The row that is so written."""
    reader = Reader(text)
    row = reader.row(0)
    if reader.at < len(text):
        raise BadText(reader.at)
    return row
