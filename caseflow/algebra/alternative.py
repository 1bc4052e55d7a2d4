"""The alternative between positive vectors and rising sums of rows (Stiemke's lemma)."""

from caseflow.algebra.rows import common_multiple, pivot_rows, shortened, without


def positive_or_rising(rows):
    """Returns (vector, None) or (None, factors), whichever of the two exists.

    The vector has entries of at least 1, and its product sum with each row is 0.
    The factors are one for each row. The sum of the rows multiplied by them has
    no entry below 0 and some entry above 0.
    """
    width = len(rows[0])
    # Beside each row stand the factors by which it is a sum of the given rows.
    marked = [list(row) + _one_factor(at, len(rows)) for at, row in enumerate(rows)]
    found = pivot_rows(marked, list(range(width)))
    pivot = _first_small(found, width)
    while pivot is not None:
        row = found.pop(pivot)
        column = _first_negative(row, width)
        if column is None:
            return None, tuple(row[width:])
        # The first pivot and the first column are taken, or the exchanges might not end (Bland's rule).
        row = [-entry for entry in row]
        found = {other: without(found[other], row, column) for other in found}
        found[column] = row
        pivot = _first_small(found, width)
    return _vector(found, width), None


def _one_factor(at, many):
    return [1 if at == number else 0 for number in range(many)]


def _first_small(found, width):
    """Returns the first pivot whose entry would be less than 1, or None.

    All columns that are no pivots have the entry 1.
    """
    for pivot in sorted(found):
        if sum(found[pivot][:width]) > 0:
            return pivot
    return None


def _first_negative(row, width):
    for column in range(width):
        if row[column] < 0:
            return column
    return None


def _vector(found, width):
    multiple = common_multiple(found)
    entries = [multiple] * width
    for pivot in found:
        row = found[pivot]
        entries[pivot] = multiple - multiple // row[pivot] * sum(row[:width])
    return tuple(shortened(entries))
