"""The lines that show a record."""

from orderless.cells import cell_names
from orderless.steplines import joined


def row_lines(cells, record):
    """A list with a string for each row of a record: the name, what was looked at, what was assigned."""
    names = cell_names(cells)
    rows = [(name, _cells_text(names, looked), _assigned_text(names, assigns)) for name, looked, assigns in record[1]]
    name_width = max([len(name) for name, _, _ in rows], default=0)
    looked_width = max([len(looked) for _, looked, _ in rows], default=0)
    return [f"{name.ljust(name_width)}  {looked.ljust(looked_width)}  {assigns}" for name, looked, assigns in rows]


def _cells_text(names, entries):
    return joined([f"{names[index]}={value}" for index, value in entries], ",")


def _assigned_text(names, entries):
    return "rests" if entries is None else _cells_text(names, entries)
