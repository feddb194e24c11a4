"""Reading the lines of steps."""

from orderless.programreadings import take_cell, take_expression, take_rule
from orderless.stepkinds import NAMING, PAIRING, STEP_WORDS
from orderless.wordreading import WordReader, is_integer_word


def read_step(text):
    """The step that a string writes; whether it is barred is not checked."""
    return _step_in(text, 0)


def read_log(lines):
    """The tuple of the steps that a list of strings writes."""
    return tuple([_step_in(text, line) for line, text in enumerate(lines)])


def _step_in(text, line):
    reader = WordReader(text, line, 0)
    word = reader.take_one_of(STEP_WORDS)
    if word in PAIRING:
        step = (word, reader.take_name(), reader.take_name())
    elif word in NAMING:
        step = (word, reader.take_name())
    elif word == "cell":
        step = (word, take_cell(reader))
    elif word == "rule":
        step = (word, take_rule(reader))
    elif word == "starts":
        step = (word, take_expression(reader))
    else:
        step = (word, _take_values(reader))
    reader.take_end()
    return step


def _take_values(reader):
    word = reader.next_word()
    parts = [] if word == "-" else word.split(",")
    reader.take(all([is_integer_word(part) for part in parts]))
    return tuple([int(part) for part in parts])
