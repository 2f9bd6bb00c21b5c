"""The errors of the program."""


class SugarError(ValueError):
    """The base class of all errors of the program."""


class TextError(SugarError):
    """A text cannot be read; `at` is the position of the fault in it."""

    def __init__(self, at):
        super().__init__(f"the text is wrong at position {at}")
        self.at = at


class FormError(SugarError):
    """A program, a form or a rule does not have the form that it must have."""


class MatchError(SugarError):
    """A use of a macro matches no rule, or its repetitions are of unequal number."""


class ScopeError(SugarError):
    """A name refers to no binding, or to none that contains all others."""


class LimitError(SugarError):
    """An expansion or a run goes beyond a limit."""


class StuckError(SugarError):
    """A term is not a value and cannot make a step."""
