"""Reading texts as programs, and writing programs as texts."""

from sugartrue.errors import TextError

DEEPEST_LIST = 30
MOST_DIGITS = 9
LONGEST_NAME = 20
DIGITS = "0123456789"
LETTERS = "abcdefghijklmnopqrstuvwxyz"
SPECIAL_NAMES = ("+", "-", "*", "<", "=", "_", "...")


def made_of(text, signs):
    return all([sign in signs for sign in text])


def names_an_integer(run):
    if run == "0":
        return True
    digits = run.removeprefix("-")
    if not 1 <= len(digits) <= MOST_DIGITS or digits[0] == "0":
        return False
    return made_of(digits, DIGITS)


def is_a_name(run):
    if run in SPECIAL_NAMES:
        return True
    if len(run) > LONGEST_NAME or run[0] not in LETTERS:
        return False
    return made_of(run, LETTERS + DIGITS)


def pieces(text):
    """The parentheses and the runs of a text, each behind its position."""
    found = []
    start = 0
    # The space ends a run that reaches to the end of the text.
    for at, sign in enumerate(text + " "):
        if sign in " \n()":
            if start < at:
                found.append((start, text[start:at]))
            if sign in "()":
                found.append((at, sign))
            start = at + 1
    return found


def read(text):
    """The program of a text: the list of its trees."""
    program = []
    items = program
    opened = []
    names = 0
    for at, piece in pieces(text):
        if piece == "(":
            if len(opened) == DEEPEST_LIST:
                raise TextError(at)
            opened.append((at, items))
            inner = []
            items.append(("list", inner))
            items = inner
        elif piece == ")":
            if not opened:
                raise TextError(at)
            _, items = opened.pop()
        elif names_an_integer(piece):
            items.append(("int", int(piece)))
        elif is_a_name(piece):
            items.append(("name", piece, names))
            names += 1
        else:
            raise TextError(at)
    if opened:
        raise TextError(opened[-1][0])
    return program


def write(tree):
    """The written form of a tree."""
    out = []
    # Trees that are still to be written, and texts, the next one last.
    waiting = [tree]
    while waiting:
        part = waiting.pop()
        if isinstance(part, str):
            out.append(part)
        elif part[0] == "list":
            out.append("(")
            waiting.append(")")
            for at, item in reversed(list(enumerate(part[1]))):
                waiting.append(item)
                if at > 0:
                    waiting.append(" ")
        else:
            out.append(str(part[1]))
    return "".join(out)


def write_program(program):
    """The written form of a program: each tree on a line of its own."""
    return "".join([write(tree) + "\n" for tree in program])
