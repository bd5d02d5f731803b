"""Kinds, programs and things written as texts: point 25 of the document."""

KIND_SIGNS = {"either": "+", "both": "*", "way": ">"}

PROGRAM_WORDS = {
    "first": "fst",
    "second": "snd",
    "left": "inl",
    "right": "inr",
    "case": "case",
    "way": "way",
    "give": "give",
    "let": "let",
    "never": "never",
}


def show_kind(kind):
    return written(kind, pieces_of_kind)


def show_program(program):
    return written(program, pieces_of_program)


def show_thing(thing):
    return written(thing, pieces_of_thing)


# Pieces are texts, and what is still to be written. What is told may lie far deeper than 60, so this goes through a
# list and not by calls in calls.
def written(whole, pieces_of):
    texts = []
    ahead = [whole]
    while len(ahead) > 0:
        here = ahead.pop()
        if isinstance(here, str):
            texts.append(here)
        else:
            ahead.extend(list(reversed(pieces_of(here))))
    return "".join(texts)


def pieces_of_kind(kind):
    if kind[0] == "none":
        return ["0"]
    if kind[0] == "one":
        return ["1"]
    return ["(", kind[1], KIND_SIGNS[kind[0]], kind[2], ")"]


def pieces_of_program(program):
    if program[0] == "name":
        return ["#" + str(program[1])]
    if program[0] == "star":
        return ["."]
    if program[0] == "pair":
        return ["(", program[1], ",", program[2], ")"]
    pieces = ["[" + PROGRAM_WORDS[program[0]]]
    parts = list(program[1:])
    if program[0] in ("left", "right", "way", "never"):
        parts[0] = show_kind(program[1])
    for part in parts:
        pieces.extend([" ", part])
    return pieces + ["]"]


def pieces_of_thing(thing):
    if thing == ():
        return ["."]
    if thing[0] == "l":
        return ["<", thing[1]]
    if thing[0] == "r":
        return [">", thing[1]]
    if thing[0] == "p":
        return ["(", thing[1], ",", thing[2], ")"]
    pieces = []
    for number, part in enumerate(thing[1]):
        pieces.extend(["," if number > 0 else "{", part])
    return pieces + ["}"] if len(pieces) > 0 else ["{}"]
