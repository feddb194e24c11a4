"""Writing touch papers: states that show that two rules are not apart."""

from orderless.effectpapers import effect_paper


def touch_paper(program, rule, other):
    """A tuple (changer, cell, state, seen), or None if the rules are apart."""
    papers = (effect_paper(program, rule), effect_paper(program, other))
    for changer in (0, 1):
        for cell, state in papers[changer][1]:
            seen = _seen(papers[1 - changer], cell)
            if seen is not None:
                return (changer, cell, state, seen)
    return None


def _seen(paper, cell):
    """The states by which an effect paper shows that the rule changes or reads a cell, or None."""
    reads, changes = paper
    for index, state in changes:
        if index == cell:
            return (state,)
    for index, one, other in reads:
        if index == cell:
            return (one, other)
    return None
