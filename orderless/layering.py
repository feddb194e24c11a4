"""Layerings: rules that are done layer by layer, those of a layer in any interleaving."""

from orderless.errors import InvalidPaper
from orderless.interleaving import interleaved
from orderless.kinds import are_names
from orderless.orders import pairs_closed, prefixes_of, rule_names
from orderless.pairings import apart_pairs, are_apart


def layers_of(program):
    """A layering with the least number of layers.

    The first layers of a layering are a prefix together, and the rules that a longer prefix has more are a layer if
    each two of them are apart. So the layerings are the ways from () to all rules by such prefixes.
    """
    prefixes = prefixes_of(program)
    apart = apart_pairs(program)
    layers_to = {(): ()}
    while rule_names(program) not in layers_to:
        layers_to = _with_one_layer_more(prefixes, apart, layers_to)
    return layers_to[rule_names(program)]


def lets_layers(program, thing):
    """The number of layers of a layering; raises InvalidPaper for any other value."""
    if not _has_shape(thing):
        raise InvalidPaper("shape", -1)
    names = rule_names(program)
    place_of = {}
    for k, layer in enumerate(thing):
        if layer == () or layer != tuple(sorted(set(layer))):
            raise InvalidPaper("layer", k)
        for name in layer:
            if name not in names or name in place_of:
                raise InvalidPaper("layer", k)
            place_of[name] = k
    if len(place_of) < len(names):
        raise InvalidPaper("rules", -1)
    for one, other in pairs_closed(program):
        if place_of[one] > place_of[other]:
            raise InvalidPaper("pair", (one, other))
    for one in names:
        for other in names:
            if one < other and place_of[one] == place_of[other] and not are_apart(program, one, other):
                raise InvalidPaper("apart", (one, other))
    return len(thing)


def run_layers(program, state, layers, codes, *schedules):
    """The values of the cells at the end of a layering with code for each rule, in the order of the rules."""
    names = rule_names(program)
    values = state
    for k, layer in enumerate(layers):
        schedule = schedules[k] if k < len(schedules) else ()
        values = interleaved(program[0], values, tuple([codes[names.index(name)] for name in layer]), schedule)
    return values


def _with_one_layer_more(prefixes, apart, layers_to):
    """A dict of layers that lead to prefixes, with all prefixes to which one layer more leads."""
    found = {prefix: layers_to[prefix] for prefix in layers_to}
    for prefix in layers_to:
        for longer in prefixes:
            layer = tuple([name for name in longer if name not in prefix])
            if longer not in found and _is_next_layer(apart, prefix, longer, layer):
                found[longer] = layers_to[prefix] + (layer,)
    return found


def _is_next_layer(apart, prefix, longer, layer):
    """Whether a longer prefix has all of a prefix, and one layer more."""
    if len(longer) != len(prefix) + len(layer):
        return False
    return all([(one, other) in apart for one in layer for other in layer if one < other])


def _has_shape(thing):
    return isinstance(thing, tuple) and all([are_names(layer) for layer in thing])
