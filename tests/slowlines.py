"""A second reader of the lines of steps: it expands the forms of the document, word by word, on a stack."""

import re

WORD = re.compile(r"[a-z]{1,8}")
NUMBER = re.compile(r"0|-?[1-9][0-9]{0,59}")

PARTS = {op: ["E"] * many for many, ops in enumerate(("", "not neg", "+ - * least most = < <= and or", "if")) for op in ops.split()}
PARTS.update({"at": ["NAME", "E"], "div": ["E", "POSITIVE"], "mod": ["E", "POSITIVE"]})

LINES = {
    "cell": ["NAME", "SIZE", "INT", "INT", "INT", "KIND"], "uncell": ["NAME"], "rule": ["NAME", "when", "E", "set", "TARGET", "E", "MORE"],
    "unrule": ["NAME"], "pair": ["NAME", "NAME"], "unpair": ["NAME", "NAME"], "starts": ["E"], "decide": ["NAME", "NAME"],
    "undecide": ["NAME", "NAME"], "inputs": ["VALUES"],
}


def is_name(word):
    return WORD.fullmatch(word) is not None


def is_number(word):
    return NUMBER.fullmatch(word) is not None


def expanded(symbol, word):
    """What is expected behind a word that stands for a symbol, or None if it cannot stand there."""
    if symbol == "LINE":
        return LINES.get(word)
    if symbol == "FORM":
        return PARTS[word] + [")"] if word in PARTS else None
    if symbol == "MORE":
        return ["TARGET", "E", "MORE"] if word == "set" else None
    if symbol == "E" and word == "(":
        return ["FORM"]
    if symbol == "TARGET" and word == "(":
        return ["at", "NAME", "E", ")"]
    right = {
        "NAME": is_name(word), "TARGET": is_name(word), "E": is_name(word) or is_number(word), "INT": is_number(word),
        "SIZE": is_number(word) and word[0] != "-", "POSITIVE": is_number(word) and word[0] not in "-0",
        "KIND": word in ("input", "shown", "both", "hidden"), "VALUES": word == "-" or all(map(is_number, word.split(","))),
    }
    return [] if right.get(symbol, symbol == word) else None


def wrong_field(text):
    """The index of the first word that cannot stand, the number of words if one is missing, or None."""
    stack = ["LINE"]
    words = text.split(" ")
    for field, word in enumerate(words):
        if not stack:
            return field
        more = expanded(stack[0], word)
        if more is None:
            return field
        stack = more + stack[1:]
    return None if stack in ([], ["MORE"]) else len(words)
