"""The cells that cell rows stand for: their names, ranges and indexes."""

from orderless.errors import UnknownCell


def row_width(row):
    """How many cells a row stands for."""
    return max(1, row[1])


def cell_names(cells):
    """The written names of all cells, in order."""
    names = []
    for row in cells:
        if row[1] == 0:
            names = names + [row[0]]
        else:
            names = names + [f"{row[0]}.{key}" for key in range(row[1])]
    return tuple(names)


def cell_ranges(cells):
    """The pairs (low, high) of all cells, in order."""
    ranges = []
    for row in cells:
        ranges = ranges + [(row[2], row[3])] * row_width(row)
    return tuple(ranges)


def found_index(cells, name, key):
    """The index of a cell as in cell_index, or None if there is no such cell."""
    begin = 0
    for row in cells:
        if row[0] == name:
            if key is None:
                return begin if row[1] == 0 else None
            return begin + key if 0 <= key < row[1] else None
        begin = begin + row_width(row)
    return None


def cell_index(cells, name, *, key=None):
    """The index of a plain cell, or of the cell of a table with a key."""
    index = found_index(cells, name, key)
    if index is None:
        raise UnknownCell(name)
    return index
