"""Which values are code: tuples of instructions over slots and places."""

from orderless.kinds import is_integer, is_name, is_number

SLOTS = 32

OPERATORS = ("+", "-", "*", "least", "most", "=", "<", "<=", "div", "mod")

# The kinds of the parts that stand behind the word of an instruction.
PARTS = {
    "const": ("slot", "integer"),
    "do": ("operator", "slot", "slot", "slot"),
    "load": ("slot", "place"),
    "loadat": ("slot", "name", "slot"),
    "store": ("place", "slot"),
    "storeat": ("name", "slot", "slot"),
    "jump": ("index",),
    "unless": ("slot", "index"),
    "end": (),
}


def is_code(thing):
    """Whether any value is code; whether it fits cells does not matter."""
    return isinstance(thing, tuple) and all([_is_instruction(part) for part in thing])


def touched_place(instruction):
    """The place of a load or a store, the name of the table of a loadat or a storeat; None for all others."""
    if instruction[0] in ("load", "loadat"):
        return instruction[2]
    if instruction[0] in ("store", "storeat"):
        return instruction[1]
    return None


def jump_index(instruction):
    """The index that an instruction may go on at, or None."""
    return instruction[-1] if instruction[0] in ("jump", "unless") else None


def _is_instruction(thing):
    if not isinstance(thing, tuple) or thing == () or not isinstance(thing[0], str):
        return False
    kinds = PARTS.get(thing[0])
    if kinds is None or len(kinds) != len(thing) - 1:
        return False
    return all([_is_part(kind, part) for kind, part in zip(kinds, thing[1:])])


def _is_part(kind, part):
    if kind == "slot":
        return is_number(part) and part < SLOTS
    if kind == "integer":
        return is_integer(part)
    if kind == "index":
        return is_number(part)
    if kind == "name":
        return is_name(part)
    if kind == "place":
        return _is_place(part)
    return isinstance(part, str) and part in OPERATORS


def _is_place(thing):
    if isinstance(thing, tuple):
        return len(thing) == 2 and is_name(thing[0]) and is_number(thing[1])
    return is_name(thing)
