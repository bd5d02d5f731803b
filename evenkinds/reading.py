"""Kinds, programs and things read from texts: point 25 of the document."""

from evenkinds.errors import NoText

FIGURES = "0123456789"
LETTERS = "abcdefghijklmnopqrstuvwxyz"

# The fronts of a kind, whose word comes behind its first half, and of a way's row.
KIND = ("kind",)
ROW = ("row",)

KIND_WORDS = {"+": "either", "*": "both", ">": "way"}

# For each word the program's word, whether a kind comes behind it, and how many programs then.
FORMS = {
    "fst": ("first", False, 1),
    "snd": ("second", False, 1),
    "inl": ("left", True, 1),
    "inr": ("right", True, 1),
    "case": ("case", False, 3),
    "way": ("way", True, 1),
    "give": ("give", False, 2),
    "let": ("let", False, 2),
    "never": ("never", True, 1),
}


def read_kind(text):
    return read_whole(text, begin_kind)


def read_program(text):
    return read_whole(text, begin_program)


def read_thing(text):
    return read_whole(text, begin_thing)


def read_whole(text, begin):
    reader = Reader(text)
    answer = read_one(reader, begin)
    if reader.place < len(text):
        raise NoText()
    return answer


class Reader:
    def __init__(self, text):
        self.text = text
        self.place = 0

    # At the end of the text this is empty, and so none of the signs.
    def next_sign(self):
        return self.text[self.place:self.place + 1]

    def sign(self):
        sign = self.next_sign()
        self.place = self.place + 1
        return sign

    def must_be(self, wanted):
        if self.text[self.place:self.place + len(wanted)] != wanted:
            raise NoText()
        self.place = self.place + len(wanted)

    def signs_of(self, choices):
        start = self.place
        while self.next_sign() != "" and self.next_sign() in choices:
            self.place = self.place + 1
        return self.text[start:self.place]


# What has been begun and not ended: how many parts it has (None: one or more), the signs that may stand between them,
# the one that did, and what stands at the end.
class Begun:
    def __init__(self, front, many, between, end):
        self.front = front
        self.many = many
        self.between = between
        self.end = end
        self.parts = []
        self.found = ""

    # Whether this was the last part.
    def ends_with(self, part, reader):
        self.parts.append(part)
        if self.many == len(self.parts) or (self.many is None and reader.next_sign() == self.end):
            reader.must_be(self.end)
            return True
        self.found = reader.sign()
        if self.found == "" or self.found not in self.between:
            raise NoText()
        return False

    def whole(self):
        if self.front == ROW:
            return ("w", tuple(self.parts))
        if self.front == KIND:
            return (KIND_WORDS[self.found],) + tuple(self.parts)
        return self.front + tuple(self.parts)


# Texts may lie somewhat deeper than told, so this goes through a list and not by calls in calls.
def read_one(reader, begin):
    begun = []
    while True:
        here = begin(reader)
        if isinstance(here, Begun):
            begun.append(here)
            continue
        while len(begun) > 0 and begun[-1].ends_with(here, reader):
            here = begun.pop().whole()
        if len(begun) == 0:
            return here


def begin_kind(reader):
    sign = reader.sign()
    if sign == "0":
        return ("none",)
    if sign == "1":
        return ("one",)
    if sign == "(":
        return Begun(KIND, 2, "+*>", ")")
    raise NoText()


def begin_program(reader):
    sign = reader.sign()
    if sign == ".":
        return ("star",)
    if sign == "#":
        return ("name", read_number(reader))
    if sign == "(":
        return Begun(("pair",), 2, ",", ")")
    if sign == "[":
        return begin_form(reader)
    raise NoText()


def begin_form(reader):
    word = reader.signs_of(LETTERS)
    if word not in FORMS:
        raise NoText()
    reader.must_be(" ")
    form = FORMS[word]
    front = (form[0],)
    if form[1]:
        front = (form[0], read_one(reader, begin_kind))
        reader.must_be(" ")
    return Begun(front, form[2], " ", "]")


def read_number(reader):
    figures = reader.signs_of(FIGURES)
    if figures == "" or len(figures) > 4 or (figures[0] == "0" and figures != "0"):
        raise NoText()
    return int(figures)


def begin_thing(reader):
    sign = reader.sign()
    if sign == ".":
        return ()
    if sign == "<":
        return Begun(("l",), 1, "", "")
    if sign == ">":
        return Begun(("r",), 1, "", "")
    if sign == "(":
        return Begun(("p",), 2, ",", ")")
    if sign == "{" and reader.next_sign() == "}":
        reader.must_be("}")
        return ("w", ())
    if sign == "{":
        return Begun(ROW, None, ",", "}")
    raise NoText()
