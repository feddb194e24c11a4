"""A desk: a workshop that is asked and changed by lines of text."""

from orderless.errors import InvalidCommand, InvalidText
from orderless.kinds import is_name
from orderless.linereadings import read_log
from orderless.records import record_order
from orderless.steplines import joined, step_line, values_text
from orderless.workshops import Workshop


def _pairs_text(pairs):
    return joined([f"{one}:{other}" for one, other in pairs], ",")


def _open_answer(workshop):
    return _pairs_text(workshop.open_pairs)


def _decisions_answer(workshop):
    return _pairs_text(workshop.decisions)


def _implied_answer(workshop):
    return _pairs_text(workshop.implied())


def _needless_answer(workshop):
    return _pairs_text(workshop.needless())


def _settled_answer(workshop):
    return "yes" if workshop.is_settled else "no"


def _inputs_answer(workshop):
    return values_text(workshop.inputs)


def _result_answer(workshop):
    result = workshop.result
    return "none" if result is None else values_text(result)


def _order_answer(workshop):
    record = workshop.record
    return "none" if record is None else joined(record_order(record), ",")


def _undo_answer(workshop):
    return step_line(workshop.undo())


def _count_answer(workshop):
    return str(len(workshop.log()))


def _log_answer(workshop):
    return str(workshop)


def _table_answer(workshop):
    return joined(workshop.table(), " / ")


# The commands that consist of one word, except new, which needs the desk.
ANSWERS = {
    "open": _open_answer,
    "decisions": _decisions_answer,
    "implied": _implied_answer,
    "needless": _needless_answer,
    "settled": _settled_answer,
    "inputs": _inputs_answer,
    "result": _result_answer,
    "order": _order_answer,
    "undo": _undo_answer,
    "count": _count_answer,
    "log": _log_answer,
    "table": _table_answer,
}


class Desk:
    """A workshop that answers strings."""

    def __init__(self):
        self._workshop = Workshop()
        self._started = 0
        self._finished = 0

    def say(self, text):
        """The answer to a string."""
        self._started += 1
        try:
            return self._answer(text)
        finally:
            self._finished = self._started

    def counts(self):
        """The numbers of started and of finished strings."""
        return (self._started, self._finished)

    def _answer(self, text):
        if text == "new":
            self._workshop = Workshop()
            return "ok"
        if text in ANSWERS:
            action = ANSWERS[text]
            return action(self._workshop)
        word, _, rest = text.partition(" ")
        if word == "by":
            return self._decide_by(text)
        if word == "bars":
            step = _steps_in(text, [rest])[0]
            return self._workshop.barred(step) or "-"
        if word == "try":
            steps = _steps_in(text, rest.split(" / "))
            return _pairs_text(self._workshop.tried(*steps)[0])
        step = _steps_in(text, [text])[0]
        names = self._workshop.go(step)
        return "ok" if names is None else joined(names, ",")

    def _decide_by(self, text):
        names = text.split(" ")[1:]
        if not all([is_name(name) for name in names]):
            raise InvalidCommand(text)
        return str(self._workshop.decide_by(*names))


def _steps_in(text, lines):
    """The steps of some lines of a command, all of which must be readable."""
    try:
        return read_log(lines)
    except InvalidText:
        raise InvalidCommand(text) from None
