"""Workshops made again from their logs."""

from orderless.stepkinds import is_step
from orderless.workshops import Workshop


def is_log(thing):
    """Whether any value is a tuple of steps, whatever else bars them."""
    return isinstance(thing, tuple) and all([is_step(step) for step in thing])


def replayed(log):
    """The workshop after the steps of a log."""
    return Workshop.after(log)
