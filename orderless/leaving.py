"""Programs without some of their rules, and rules that matter."""

from orderless.alike import telling_names
from orderless.arriving import way_to
from orderless.errors import InvalidPaper
from orderless.kinds import are_names, is_number
from orderless.lookup import rule_named
from orderless.noticing import known_of
from orderless.orders import is_legal, next_rules, prefixes_of, rule_names, with_rule
from orderless.running import result_of
from orderless.states import count_states, is_start, state_at


def without_rule(program, rule):
    """The program without a rule, in which the other rules are before each other as they were."""
    rule_named(program, rule)
    cells, rules, pairs, starts = program
    kept = [pair for pair in pairs if rule not in pair]
    through = [(one, other) for one, middle in pairs for second, other in pairs if middle == second == rule]
    return (cells, tuple([one for one in rules if one[0] != rule]), tuple(sorted(set(kept + through))), starts)


def matters(program, rule):
    """Whether some legal order has for some start another result than without the rule."""
    rule_named(program, rule)
    return _mattering_place(program, known_of(program), rule) is not None


def matter_paper(program, rule):
    """A pair (number of a start, legal order) whose result is another one without the rule; None if there is none."""
    rule_named(program, rule)
    known = known_of(program)
    place = _mattering_place(program, known, rule)
    if place is None:
        return None
    moves, arriving, alike = known
    prefix, number = place
    start, before = way_to(moves, arriving, prefix, number)
    after = telling_names(program, moves, alike, with_rule(prefix, rule), (moves[rule][number], number))
    return (start, before + (rule,) + after)


def lets_matter(program, rule, thing):
    """True for a matter paper of a rule; raises InvalidPaper for any other value."""
    rule_named(program, rule)
    if not isinstance(thing, tuple) or len(thing) != 2 or not is_number(thing[0]) or not are_names(thing[1]):
        raise InvalidPaper("shape", -1)
    number, order = thing
    if number >= count_states(program) or not is_start(program, state_at(program, number)):
        raise InvalidPaper("start", -1)
    if not is_legal(program, order):
        raise InvalidPaper("order", -1)
    start = state_at(program, number)
    shorter = tuple([name for name in order if name != rule])
    if result_of(program, start, order) == result_of(without_rule(program, rule), start, shorter):
        raise InvalidPaper("same", -1)
    return True


def left_out(program):
    """A pair (names, program): names can be left out, and in the program that they leave each rule matters."""
    names = ()
    left = program
    idle = _first_idle(left)
    while idle is not None:
        names = names + (idle,)
        left = without_rule(left, idle)
        idle = _first_idle(left)
    return (names, left)


def lets_left(program, thing):
    """The program left by names that can be left out; raises InvalidPaper for any other value."""
    if not are_names(thing):
        raise InvalidPaper("shape", -1)
    left = program
    for k, name in enumerate(thing):
        if name not in rule_names(left):
            raise InvalidPaper("rule", k)
        if matters(left, name):
            raise InvalidPaper("matters", k)
        left = without_rule(left, name)
    return left


def _first_idle(program):
    """The first rule that does not matter, or None."""
    known = known_of(program)
    for name in rule_names(program):
        if _mattering_place(program, known, name) is None:
            return name
    return None


def _mattering_place(program, known, rule):
    """The first prefix, with the number of a state that arrives there, at which doing the rule is noticed later.

    The remaining rules behind the rule are those behind the same place without it. So it is noticed if the states
    with and without it are not alike at the prefix with the rule.
    """
    moves, arriving, alike = known
    for prefix in prefixes_of(program):
        if rule in next_rules(program, prefix):
            classes = alike[with_rule(prefix, rule)]
            for number in arriving[prefix]:
                if classes[moves[rule][number]] != classes[number]:
                    return (prefix, number)
    return None
