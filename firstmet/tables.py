"""Shapes, which tell the tables and their fields, and stores, which hold rows for them."""

from firstmet.checks import are_names, as_tuples, is_integer, is_name, is_row, is_tuple, is_value
from firstmet.errors import BadIndex, BadName, BadRows, BadShape, BadStore, TooMany

MOST_TABLES = 5
MOST_FIELDS = 4
MOST_ROWS = 300


class Shape:
    """The tables that a store of this shape has, in order, each with its fields."""

    def __init__(self, tables):
        check_tables(tables)
        self.tables = as_tuples(tables)

    def __eq__(self, other):
        return isinstance(other, Shape) and self.tables == other.tables

    def fields_of(self, name):
        """The tuple of the fields of the table."""
        for table, fields in self.tables:
            if table == name:
                return fields
        raise BadName(name)


class Store:
    """Rows for the tables of a shape; a store never changes, with_row and without_row give new ones."""

    def __init__(self, shape, rows):
        if not isinstance(shape, Shape):
            raise BadStore(shape)
        check_rows(shape, rows)
        self.shape = shape
        self._rows = {table: as_tuples(rows.get(table, ())) for table, _ in shape.tables}
        if sum([len(self._rows[table]) for table in self._rows]) > MOST_ROWS:
            raise TooMany()

    def __eq__(self, other):
        return isinstance(other, Store) and self.shape == other.shape and self._rows == other._rows

    def rows_of(self, name):
        """The list of the rows of the table, as tuples."""
        # Whatever a caller gives as the name, also what cannot be a key, is to be BadName.
        self.shape.fields_of(name)
        return list(self._rows[name])

    def with_row(self, name, row):
        """The store that has this row, too, behind the others of the table."""
        # The rows that are here are right, so that the store that is made can only complain of the new one.
        return self._with_rows(name, [*self.rows_of(name), row])

    def without_row(self, name, at):
        """The store that has all rows but the one with this index in the table."""
        rows = self.rows_of(name)
        if not is_integer(at) or not 0 <= at < len(rows):
            raise BadIndex(at)
        return self._with_rows(name, rows[:at] + rows[at + 1:])

    def _with_rows(self, name, rows):
        """The store that has these rows in the table, and in all other tables what this one has."""
        changed = dict(self._rows)
        changed[name] = rows
        return Store(self.shape, changed)


def check_tables(tables):
    """Raise BadShape if these are no tables of a shape."""
    if not is_row(tables, 1, MOST_TABLES):
        raise BadShape(-1)
    names = []
    for at, table in enumerate(tables):
        if not is_table(table) or table[0] in names:
            raise BadShape(at)
        names.append(table[0])


def is_table(thing):
    """Whether the thing is a tuple of a name and the fields of a table."""
    return is_tuple(thing, 2) and is_name(thing[0]) and are_names(thing[1], 1, MOST_FIELDS)


def check_rows(shape, rows):
    """Raise BadRows if these are no rows for the tables of the shape; their number is not asked for here."""
    names = [table for table, _ in shape.tables]
    if not isinstance(rows, dict) or not all([name in names for name in rows]):
        raise BadRows((None, -1))
    for table, fields in shape.tables:
        at = first_wrong_row(rows.get(table, ()), len(fields))
        if at is not None:
            raise BadRows((table, at))


def first_wrong_row(rows, width):
    """The index of the first thing that is no row of so many values; -1 if there are no rows, None if all are right."""
    if not isinstance(rows, (list, tuple)):
        return -1
    for at, row in enumerate(rows):
        if not is_row(row, width, width) or not all([is_value(value) for value in row]):
            return at
    return None
