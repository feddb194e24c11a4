"""A second way to run code, and the verdicts on codes, layerings and what is left out, word by word as stated."""

from itertools import combinations

from orderless.errors import UnknownRule
from orderless.rules import assigned, behind
from orderless.states import all_states
from tests.paperwork import is_name, is_number, is_tuple_of, is_whole
from tests.slowly import Slowly

ARITHMETIC = {
    "+": lambda p, q: p + q, "-": lambda p, q: p - q, "*": lambda p, q: p * q, "least": lambda p, q: sorted((p, q))[0],
    "most": lambda p, q: sorted((p, q))[1], "=": lambda p, q: int(p == q), "<": lambda p, q: int(p < q),
    "<=": lambda p, q: int(p <= q), "div": lambda p, q: (p - p % q) // q, "mod": lambda p, q: p - q * (p // q),
}


def places_of(cells):
    """A dict of the indexes of all places."""
    keys = [(name, key) if size else name for name, size, *_ in cells for key in (range(size) if size else (None,))]
    return {key: index for index, key in enumerate(keys)}


def running(cells, code, memory):
    """A generator of what code does, up to and including each load and store: (word, instruction, cell, value).

    memory is the list of the values of the cells, which other codes may change in between.
    """
    places, slots, i = places_of(cells), dict.fromkeys(range(32), 0), 0
    while i < len(code):
        word, *parts = code[i]
        if word == "end":
            return
        if word == "jump" or (word == "unless" and slots[parts[0]] == 0):
            i = parts[-1]
            continue
        if word == "const":
            slots[parts[0]] = parts[1]
        if word == "do":
            op, r, s, u = parts
            if op in ("div", "mod") and slots[u] <= 0:
                yield ("fault", i, None, None)
                return
            slots[r] = ARITHMETIC[op](slots[s], slots[u])
        if word in ("load", "loadat"):
            place = parts[1] if word == "load" else (parts[1], slots[parts[2]])
            if place not in places:
                yield ("fault", i, None, None)
                return
            slots[parts[0]] = memory[places[place]]
            yield ("load", i, places[place], slots[parts[0]])
        if word in ("store", "storeat"):
            place = parts[0] if word == "store" else (parts[0], slots[parts[1]])
            if place not in places:
                yield ("fault", i, None, None)
                return
            memory[places[place]] = slots[parts[-1]]
            yield ("store", i, places[place], slots[parts[-1]])
        i += 1


def slowly_alone(cells, code, state):
    """What run_alone returns."""
    memory = list(state)
    steps = list(running(cells, code, memory))
    events = tuple((word, cell, value) for word, _, cell, value in steps if word != "fault")
    return (None if steps and steps[-1][0] == "fault" else tuple(memory), events)


def slowly_interleaved(cells, state, codes, schedule):
    """What interleaved returns, and for each step of the schedule whether it did a load or store, and the rest."""
    memory = list(state)
    runs = [running(cells, code, memory) for code in codes]
    done = [next(runs[k], None) for k in schedule]
    rest = [step for run in runs for step in run]
    return tuple(memory), [step is not None and step[0] != "fault" for step in done], [step for step in rest if step[0] != "fault"]


def slot(thing):
    return is_number(thing) and thing <= 31


def is_place(thing):
    return is_name(thing) or (type(thing) is tuple and len(thing) == 2 and is_name(thing[0]) and is_number(thing[1]))


FORMS = {
    "const": (slot, is_whole), "do": (lambda op: type(op) is str and op in ARITHMETIC, slot, slot, slot), "load": (slot, is_place),
    "loadat": (slot, is_name, slot), "store": (is_place, slot), "storeat": (is_name, slot, slot), "jump": (is_number,),
    "unless": (slot, is_number), "end": (),
}


def is_instruction(thing):
    if type(thing) is not tuple or not thing or type(thing[0]) is not str or thing[0] not in FORMS:
        return False
    forms = FORMS[thing[0]]
    return len(forms) == len(thing) - 1 and all(form(part) for form, part in zip(forms, thing[1:]))


def code_errors(program, name, thing):
    """All errors of code in order, as long as it can be run."""
    cells = program[0]
    if not is_tuple_of(thing, is_instruction):
        yield ("shape", -1)
        return
    names = {(row[0], bool(row[1])) for row in cells}
    for i, (word, *parts) in enumerate(thing):
        if word in ("load", "store"):
            if parts[word == "load"] not in places_of(cells):
                yield ("cell", i)
        if word in ("loadat", "storeat") and (parts[word == "loadat"], True) not in names:
            yield ("cell", i)
        if word in ("jump", "unless") and not (parts[-1] > i and parts[-1] <= len(thing)):
            yield ("jump", i)
    states = list(all_states(program))
    rule = [rule for rule in program[1] if rule[0] == name][0]
    changed = {cell for state in states for cell, value in assigned(cells, rule, state) or () if state[cell] != value}
    ranges = [row[2:4] for row in cells for _ in range(max(1, row[1]))]
    for n, state in enumerate(states):
        memory, loads, stores = list(state), [], []
        for word, i, cell, value in running(cells, thing, memory):
            if word == "fault":
                yield ("fault", (n, i))
            if word == "load":
                if cell in loads:
                    yield ("twice", (n, i))
                if stores:
                    yield ("late", (n, i))
                loads.append(cell)
            if word == "store":
                if cell not in changed or cell in stores:
                    yield ("store", (n, i))
                if not ranges[cell][0] <= value <= ranges[cell][1]:
                    yield ("range", (n, i))
                stores.append(cell)
        if tuple(memory) != behind(cells, rule, state):
            yield ("end", n)


def code_verdict(program, name, thing):
    """What lets_code does: ("accepted", result), or the attributes of its error."""
    for error in code_errors(program, name, thing):
        return error
    return ("accepted", len(thing))


def slowly_apart(program, one, other):
    """Whether two rules are apart, by looking at all pairs of states."""
    states = list(all_states(program))
    touched = []
    for name in (one, other):
        rule = [rule for rule in program[1] if rule[0] == name][0]
        entries = {state: assigned(program[0], rule, state) for state in states}
        changes = {cell for state in states for cell, value in entries[state] or () if state[cell] != value}
        reads = set()
        for state, second in combinations(states, 2):
            cells = [k for k in range(len(state)) if state[k] != second[k]]
            if len(cells) == 1 and entries[state] != entries[second]:
                reads.update(cells)
        touched.append((changes, changes | reads))
    return not (touched[0][0] & touched[1][1]) and not (touched[1][0] & touched[0][1])


def layer_errors(program, thing):
    """All errors of a layering in order, as long as they can be looked for."""
    if not is_tuple_of(thing, lambda layer: is_tuple_of(layer, is_name)):
        yield ("shape", -1)
        return
    slowly = Slowly(program)
    for k, layer in enumerate(thing):
        earlier = [name for other in thing[:k] for name in other]
        if not layer or list(layer) != sorted(set(layer)) or set(layer) - set(slowly.names) or set(layer) & set(earlier):
            yield ("layer", k)
    place = {name: k for k, layer in enumerate(thing) for name in layer}
    if set(slowly.names) - set(place):
        yield ("rules", -1)
        return
    for one, other in sorted(slowly.closed):
        if place[one] > place[other]:
            yield ("pair", (one, other))
    for one, other in combinations(slowly.names, 2):
        if place[one] == place[other] and not slowly_apart(program, one, other):
            yield ("apart", (one, other))


def layer_verdict(program, thing):
    for error in layer_errors(program, thing):
        return error
    return ("accepted", len(thing))


def slowly_without(program, name):
    """The program without a rule."""
    cells, rules, pairs, starts = program
    new = {(one, other) for one, middle in pairs for second, other in pairs if middle == name and second == name}
    new |= {pair for pair in pairs if name not in pair}
    return (cells, tuple(rule for rule in rules if rule[0] != name), tuple(sorted(new)), starts)


def matter_papers(program, name):
    """All matter papers of a rule."""
    slowly, shorter = Slowly(program), Slowly(slowly_without(program, name))
    return [(slowly.states.index(start), order) for start in slowly.starts for order in slowly.orders(slowly.names)
            if slowly.result(start, order) != shorter.result(start, tuple(other for other in order if other != name))]


def matter_verdict(program, name, thing):
    """What lets_matter does."""
    slowly, shorter = Slowly(program), Slowly(slowly_without(program, name))
    if name not in slowly.names:
        raise UnknownRule(name)
    if type(thing) is not tuple or len(thing) != 2 or not is_number(thing[0]) or not is_tuple_of(thing[1], is_name):
        return ("shape", -1)
    if thing[0] >= len(slowly.states) or slowly.states[thing[0]] not in slowly.starts:
        return ("start", -1)
    if thing[1] not in slowly.orders(slowly.names):
        return ("order", -1)
    start = slowly.states[thing[0]]
    if slowly.result(start, thing[1]) == shorter.result(start, tuple(other for other in thing[1] if other != name)):
        return ("same", -1)
    return ("accepted", True)


def left_verdict(program, thing):
    """What lets_left does."""
    if not is_tuple_of(thing, is_name):
        return ("shape", -1)
    left = program
    for k, name in enumerate(thing):
        if name not in [rule[0] for rule in left[1]]:
            return ("rule", k)
        if matter_papers(left, name):
            return ("matters", k)
        left = slowly_without(left, name)
    return ("accepted", left)
