"""The cells that cell rows stand for: their names, ranges and indexes."""

from orderless.errors import UnknownCell


def row_width(row):
    """How many cells a row stands for."""
    return max(1, row[1])


def cell_names(cells):
    """The written names of all cells, in order."""
    places = cell_places(cells)
    return tuple([place if isinstance(place, str) else f"{place[0]}.{place[1]}" for place in places])


def cell_places(cells):
    """What tells the cells apart, in order: the name of a plain cell, (name, key) for the cell of a table."""
    places = []
    for row in cells:
        if row[1] == 0:
            places = places + [row[0]]
        else:
            places = places + [(row[0], key) for key in range(row[1])]
    return tuple(places)


def cell_ranges(cells):
    """The pairs (low, high) of all cells, in order."""
    ranges = []
    for row in cells:
        ranges = ranges + [(row[2], row[3])] * row_width(row)
    return tuple(ranges)


def found_index(cells, name, key):
    """The index of a cell as in cell_index, or None if there is no such cell."""
    begin = 0
    for row in cells:
        if row[0] == name:
            if key is None:
                return begin if row[1] == 0 else None
            return begin + key if 0 <= key < row[1] else None
        begin = begin + row_width(row)
    return None


def cell_index(cells, name, *, key=None):
    """The index of a plain cell, or of the cell of a table with a key."""
    index = found_index(cells, name, key)
    if index is None:
        raise UnknownCell(name)
    return index
