"""The pairs of a program and what they leave open: legal orders, prefixes, next rules, exchanges."""

from orderless.lookup import rule_named


def rule_names(program):
    """The names of all rules, ascending."""
    return tuple([rule[0] for rule in program[1]])


def pairs_closed(program):
    """The ascending tuple of all pairs (one, other) of rules such that one is before other."""
    closed = sorted(set(program[2]))
    for middle in rule_names(program):
        ahead = [one for one, other in closed if other == middle]
        after = [other for one, other in closed if one == middle]
        closed = sorted(set(closed + [(one, other) for one in ahead for other in after]))
    return tuple(closed)


def is_before(program, rule, other):
    """Whether one rule is before another one."""
    rule_named(program, rule)
    rule_named(program, other)
    return (rule, other) in pairs_closed(program)


def unordered_pairs(program):
    """The ascending tuple of all pairs (r, s) of unordered rules, r less than s."""
    names = rule_names(program)
    closed = pairs_closed(program)
    pairs = [(one, other) for one in names for other in names if one < other]
    return tuple([(one, other) for one, other in pairs if (one, other) not in closed and (other, one) not in closed])


def legal_orders(program):
    """A generator of all legal orders, ascending."""
    many = len(program[1])
    begun = [()]
    while begun:
        order = begun.pop()
        if len(order) == many:
            yield order
        for name in next_rules(program, order)[::-1]:
            begun.append(order + (name,))


def first_order(program):
    """The first legal order."""
    order = ()
    for _ in program[1]:
        order = order + next_rules(program, order)[:1]
    return order


def is_legal(program, thing):
    """Whether any value is a legal order."""
    names = rule_names(program)
    if not isinstance(thing, tuple) or len(thing) != len(names):
        return False
    if not all([name in thing for name in names]):
        return False
    return all([thing.index(one) < thing.index(other) for one, other in program[2]])


def prefixes_of(program):
    """The ascending tuple of all prefixes."""
    return tuple(sorted(prefixes_by_length(program)))


def prefixes_by_length(program):
    """A list of all prefixes, short ones first, those of one length ascending."""
    found = []
    level = [()]
    while level:
        found = found + level
        level = sorted(set([with_rule(prefix, name) for prefix in level for name in next_rules(program, prefix)]))
    return found


def with_rule(prefix, name):
    """The prefix with one more rule."""
    return tuple(sorted(prefix + (name,)))


def next_rules(program, prefix):
    """The ascending tuple of the rules that are next at a prefix; the rules in it may stand in any order."""
    barred = [other for one, other in program[2] if one not in prefix]
    return tuple([name for name in rule_names(program) if name not in prefix and name not in barred])


def exchanges_of(program):
    """A generator of all exchanges (prefix, r, s), ascending."""
    for exchange in exchange_list(program):
        yield exchange


def exchange_list(program):
    """A list of all exchanges, ascending: for properties, which must not run a generator."""
    found = []
    for prefix in prefixes_of(program):
        names = next_rules(program, prefix)
        found = found + [(prefix, one, other) for one in names for other in names if one < other]
    return found
