"""Telling about a text what its program does, in lines."""

from sugartrue.errors import FormError, LimitError, MatchError, ScopeError, TextError
from sugartrue.machine import run
from sugartrue.reading import read
from sugartrue.showing import Shower

MOST_STEPS = 200


def value_text(value):
    kind = value[0]
    if kind == "pair":
        return f"({value_text(value[1])} . {value_text(value[2])})"
    if kind in ("int", "prim"):
        return str(value[1])
    return "function"


def report(text):
    """The lines about a text: the states that are shown and the end of the run, or the error."""
    try:
        shower = Shower(read(text))
    except TextError as error:
        return [f"error TextError {error.at}"]
    except FormError:
        return ["error FormError"]
    except MatchError:
        return ["error MatchError"]
    except ScopeError:
        return ["error ScopeError"]
    except LimitError:
        return ["error LimitError"]
    states, end = run(shower.term, MOST_STEPS)
    lines = []
    for at, state in enumerate(states):
        expression = shower.expression(state)
        if expression is not None:
            lines.append(f"{at} {expression}")
    told = f"value {value_text(states[-1])}" if end == "value" else end
    lines.append(f"{told} after {len(states) - 1}")
    return lines
