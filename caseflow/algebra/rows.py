"""Rows of integers, as equations between unknowns, and what solves them exactly."""

from math import gcd, lcm


def product_sum(row, vector):
    """Returns the sum of the products of the entries."""
    return sum([entry * factor for entry, factor in zip(row, vector)])


def pivot_rows(rows, columns):
    """Returns a dict from pivots, which are columns, to rows.

    Its rows span what these rows span over the rational numbers. The row of a
    pivot has a positive entry there, and all others have 0 there. The columns
    are tried in this order, and each becomes a pivot if it can.
    """
    left = [list(row) for row in rows]
    found = {}
    for column in columns:
        entries = [row[column] != 0 for row in left]
        if True in entries:
            row = with_positive(left.pop(entries.index(True)), column)
            left = [without(other, row, column) for other in left]
            found = {pivot: without(found[pivot], row, column) for pivot in found}
            found[column] = row
    return found


def null_basis(rows, width):
    """Returns the reduced basis of the vectors with which all rows have the product sum 0."""
    # The last columns become pivots, so each vector begins at a column that is none.
    found = pivot_rows(rows, list(reversed(range(width))))
    return tuple([_null_vector(found, free, width) for free in range(width) if free not in found])


def with_positive(row, column):
    """Returns the row, or its negative, so that its entry in the column is positive."""
    return row if row[column] > 0 else [-entry for entry in row]


def without(row, other, column):
    """Returns a sum of multiples of both rows with 0 in the column.

    The entry of the other row there is positive, and so is the factor of the row.
    """
    if row[column] == 0:
        return row
    common = gcd(row[column], other[column])
    factor = other[column] // common
    less = row[column] // common
    return shortened([factor * entry - less * away for entry, away in zip(row, other)])


def shortened(row):
    """Returns the row divided by the greatest integer that divides all its entries."""
    common = 0
    for entry in row:
        common = gcd(common, entry)
        if common == 1:
            return row
    return [entry // common for entry in row] if common > 1 else row


def common_multiple(found):
    """Returns the least number that each row's entry at its pivot divides."""
    multiple = 1
    for pivot in found:
        multiple = lcm(multiple, found[pivot][pivot])
    return multiple


def _null_vector(found, free, width):
    multiple = common_multiple(found)
    entries = [0] * width
    entries[free] = multiple
    for pivot in found:
        row = found[pivot]
        entries[pivot] = multiple // row[pivot] * -row[free]
    return tuple(shortened(entries))
