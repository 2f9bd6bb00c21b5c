"""Showing the states of a run as programs in the words of the source."""

from sugartrue.errors import SugarError
from sugartrue.expanding import Expander, expand
from sugartrue.machine import run
from sugartrue.reading import read, write, write_program
from sugartrue.terms import alike, folded, without_pairs
from sugartrue.trees import NO_INDEX, SOURCE, Group, Integer, Name, grow, plain
from sugartrue.undoing import Undoing

LONGEST_TEXT = 4000


class Tracer(Expander):
    """An expander whose origins also hold the tree of the term and the front of this tree.

    So no part of a state forgets the names that stand in it, whatever steps are made.
    """

    def origin(self, tree, results, front):
        use, results, head = super().origin(tree, results, front)
        return (use, results, head, tree, tuple(front))


def own_tree(part, inner):
    """The tree of a part of a state that has these trees in it, whatever it is the result of."""
    kind = part[0]
    origin = part[-1]
    # Integers and pairs may be made by a primitive; then they have the common kind of origin.
    if kind == "int":
        return Integer(part[1], origin[0])
    if kind == "pair":
        return Group([Name("pair", (), SOURCE, NO_INDEX), *inner], (), origin[0])
    if kind in ("prim", "ref"):
        return origin[3]
    return Group([*origin[4], *inner], (), origin[0])


def is_from_source(tree):
    """Whether no use introduced anything in a tree."""
    tasks = [tree]
    while tasks:
        part = tasks.pop()
        if part.use != SOURCE:
            return False
        if isinstance(part, Group):
            tasks.extend(part.parts())
    return True


class Shower:
    """Shows the states of the run of one program."""

    def __init__(self, program):
        tracer = Tracer()
        self.term = tracer.program([grow(tree) for tree in program])
        self.definitions = write_program(program[:-1])
        # By the number of the use; None for a use of a macro of a `with`.
        self.undoings = []
        for number, use in enumerate(tracer.uses):
            self.undoings.append(Undoing(number, use) if use.macro.is_defined else None)

    def tree_of(self, part, inner):
        """The tree of a part of a state, with the uses put back of which the part is the result."""
        tree = own_tree(part, inner)
        for number in reversed(part[-1][1]):
            undoing = self.undoings[number]
            if undoing is not None:
                tree = undoing.put_back(tree)
        return tree

    def expression(self, state):
        """The written form of the expression of the program as which a state is shown, or None."""
        try:
            tree = folded(state, lambda part, inner: self.tree_of(part, inner))
            if not is_from_source(tree):
                return None
            expression = write(plain(tree))
            text = self.program(expression)
            if len(text) > LONGEST_TEXT or not alike(expand(read(text)), without_pairs(state)):
                return None
        except SugarError:
            return None
        return expression

    def program(self, expression):
        """The written form of the program with an expression."""
        return self.definitions + expression + "\n"


def show(program, limit):
    """The states of a run of at most so many steps that are shown: pairs of the index and the text."""
    shower = Shower(program)
    states, _ = run(shower.term, limit)
    shown = []
    for at, state in enumerate(states):
        expression = shower.expression(state)
        if expression is not None:
            shown.append((at, shower.program(expression)))
    return shown
