"""Reading the written forms of expressions, cell rows, rules and programs."""

from orderless.errors import InvalidText
from orderless.kinds import DIVIDING, is_name, part_count
from orderless.wordreading import WordReader

CELL_WORDS = ("input", "shown", "both", "hidden")
LINE_WORDS = ("cell", "rule", "pair", "starts")


def expression_read(text, *, line=0, field=0):
    """The expression that a string writes."""
    reader = WordReader(text, line, field)
    expression = take_expression(reader)
    reader.take_end()
    return expression


def cell_read(text, *, line=0, field=0):
    """The cell row that a string writes; its ranges are not checked."""
    reader = WordReader(text, line, field)
    row = take_cell(reader)
    reader.take_end()
    return row


def rule_read(text, *, line=0, field=0):
    """The rule that a string writes."""
    return take_rule(WordReader(text, line, field))


def program_read(text):
    """The tuple (cells, rules, pairs, starts) that a string writes; whether it is a program is not checked."""
    lines = text.split("\n")
    found = {kind: [] for kind in LINE_WORDS}
    possible = LINE_WORDS
    for number, line in enumerate(lines):
        reader = WordReader(line, number, 0)
        word = reader.take_one_of(possible)
        found[word].append(_take_line(word, reader))
        reader.take_end()
        possible = () if word == "starts" else LINE_WORDS[LINE_WORDS.index(word):]
    if possible:
        raise InvalidText(len(lines), 0)
    return (tuple(found["cell"]), tuple(found["rule"]), tuple(found["pair"]), found["starts"][0])


def take_expression(reader):
    """Takes the words of an expression from a reader."""
    word = reader.next_word()
    if word == "(":
        return _take_form(reader)
    if is_name(word):
        return reader.take_name()
    return reader.take_integer()


def take_cell(reader):
    """Takes the words of a cell row from a reader."""
    name = reader.take_name()
    size = reader.take_from(0)
    low = reader.take_integer()
    high = reader.take_integer()
    first = reader.take_integer()
    word = reader.take_one_of(CELL_WORDS)
    return (name, size, low, high, word in ("input", "both"), word in ("shown", "both"), first)


def take_rule(reader):
    """Takes all words that are left in a reader as those of a rule."""
    name = reader.take_name()
    reader.take_one_of(("when",))
    guard = take_expression(reader)
    assignments = []
    while not assignments or not reader.is_done():
        reader.take_one_of(("set",))
        target = _take_target(reader)
        assignments.append((target, take_expression(reader)))
    return (name, guard, tuple(assignments))


def _take_line(word, reader):
    if word == "cell":
        return take_cell(reader)
    if word == "rule":
        return take_rule(reader)
    if word == "pair":
        one = reader.take_name()
        return (one, reader.take_name())
    return take_expression(reader)


def _take_form(reader):
    reader.take_one_of(("(",))
    word = reader.next_word()
    op = reader.take(word == "at" or word in DIVIDING or part_count(word) is not None)
    if op == "at":
        parts = [reader.take_name(), take_expression(reader)]
    elif op in DIVIDING:
        parts = [take_expression(reader), reader.take_from(1)]
    else:
        parts = [take_expression(reader) for _ in range(part_count(op))]
    reader.take_one_of((")",))
    return tuple([op] + parts)


def _take_target(reader):
    if reader.next_word() != "(":
        return reader.take_name()
    reader.take_one_of(("(",))
    reader.take_one_of(("at",))
    name = reader.take_name()
    key = take_expression(reader)
    reader.take_one_of((")",))
    return (name, key)
