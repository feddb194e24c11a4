"""The lines that write steps."""

from orderless.programtexts import cell_text, expression_text, rule_text


def step_line(step):
    """The line of a step."""
    word = step[0]
    if word == "cell":
        return f"{word} {cell_text(step[1])}"
    if word == "rule":
        return f"{word} {rule_text(step[1])}"
    if word == "starts":
        return f"{word} {expression_text(step[1])}"
    if word == "inputs":
        return f"{word} {values_text(step[1])}"
    return " ".join(step)


def log_lines(log):
    """The list of the lines of a log."""
    return [step_line(step) for step in log]


def values_text(values):
    """Integers with commas between."""
    return joined([str(value) for value in values], ",")


def joined(parts, sign):
    """Strings with a sign between; nothing is written as -."""
    return sign.join(parts) if parts else "-"
