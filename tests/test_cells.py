"""[3], [14] and the section cells."""

from orderless.cells import cell_index, cell_names, cell_ranges
from orderless.errors import UnknownCell
from tests.samples import CELLS, MIXED, TABLE, Case

WIDE = (("t", 10, -1, 0, False, False, 0),)


class NamesTest(Case):
    def test_the_example(self):
        self.same([cell_names(TABLE), cell_index(TABLE, "t", key=1)], [("i", "t.0", "t.1"), 2])

    def test_names(self):
        self.same(cell_names(()), ())
        self.same(cell_names(cells=CELLS), ("big", "x"))
        self.same(cell_names(MIXED), ("a", "b.0", "b.1", "c", "d.0"))
        self.same(cell_names(WIDE), tuple(f"t.{k}" for k in range(10)))

    def test_ranges(self):
        self.same(cell_ranges(()), ())
        self.same(cell_ranges(cells=TABLE), ((0, 3), (0, 5), (0, 5)))
        self.same(cell_ranges(MIXED), ((-2, 1), (3, 4), (3, 4), (-1, 1), (0, 1)))
        self.same(cell_ranges(WIDE), ((-1, 0),) * 10)


class IndexTest(Case):
    def test_plain_cells_and_tables(self):
        found = [cell_index(MIXED, "a"), cell_index(MIXED, "b", key=0), cell_index(MIXED, "b", key=1),
                 cell_index(MIXED, "c", key=None), cell_index(MIXED, "d", key=0)]
        self.same(found, [0, 1, 2, 3, 4])
        self.same(cell_index(cells=TABLE, name="t", key=0), 1)
        self.same([cell_index(WIDE, "t", key=k) for k in range(10)], list(range(10)))

    def test_the_index_is_that_of_the_written_name(self):
        for cells in (CELLS, TABLE, MIXED, WIDE):
            for index, name in enumerate(cell_names(cells)):
                table, _, key = name.partition(".")
                self.same(cell_index(cells, table, key=int(key) if key else None), index)

    def test_no_such_cell(self):
        for name, key in (("x", None), ("x", 0), ("b", None), ("b", -1), ("b", 2), ("d", 1), ("d", None), ("a", 0),
                          ("a", 1), ("a", -1), ("c", 0), ("b.0", None), ("", None)):
            self.refuses(UnknownCell, {"name": name}, cell_index, MIXED, name, key=key)
        self.refuses(UnknownCell, {"name": "x"}, cell_index, (), "x")
        self.assertRaises(TypeError, cell_index, TABLE, "t", 1)
