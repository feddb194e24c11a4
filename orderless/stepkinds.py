"""Which values are steps of a workshop."""

from orderless.kinds import are_integers, is_cell_row, is_expression, is_name, is_rule

# Behind these words stands one name, or stand two.
NAMING = ("uncell", "unrule")
PAIRING = ("pair", "unpair", "decide", "undecide")

STEP_WORDS = ("cell", "uncell", "rule", "unrule", "pair", "unpair", "starts", "decide", "undecide", "inputs")


def is_step(thing):
    """Whether any value is a step, whatever bars it."""
    if not isinstance(thing, tuple) or thing == ():
        return False
    if thing[0] in PAIRING:
        return len(thing) == 3 and is_name(thing[1]) and is_name(thing[2])
    return len(thing) == 2 and _stands_behind(thing[0], thing[1])


def _stands_behind(word, part):
    """Whether any value is the only part behind a word."""
    if word in NAMING:
        return is_name(part)
    if word == "cell":
        return is_cell_row(part)
    if word == "rule":
        return is_rule(part)
    if word == "starts":
        return is_expression(part)
    return word == "inputs" and are_integers(part)
