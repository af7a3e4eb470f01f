"""Combinations of vectors of Ratios, found with integers alone."""

from partstell.ratios import Ratio, common_divisor

# A ROW is a list of integers. It begins with a multiple of a vector (or of a sum of
# multiples of vectors); behind that it has, for each vector, the share of this vector in it.
# So how a combination is made up can be read off its row. A BASIS is a list of pairs
# (pivot, row): at its pivot a row is not 0, and all other rows of the basis are.


def basis_of(vectors):
    """Give a basis, and the places of the vectors that are no combination of earlier ones.

    The rows of the basis have one share more than there are vectors, for a target.
    """
    basis = []
    kept = []
    for place, vector in enumerate(vectors):
        row = reduced(row_of(vector, place, len(vectors) + 1), basis)
        pivot = first_place(row, len(vector))
        if pivot is not None:
            basis = [(old, cleared(line, row, pivot)) for old, line in basis] + [(pivot, row)]
            kept.append(place)
    return basis, kept


def shares_of(vectors, target):
    """Give the Ratios by which the vectors add up to the target, or None if there are none.

    A vector that is a combination of earlier ones has the Ratio 0.
    """
    basis, kept = basis_of(vectors)
    row = reduced(row_of(target, len(vectors), len(vectors) + 1), basis)
    if first_place(row, len(target)) is not None:
        return None
    # The row says: the target by its own share, and the vectors by theirs, add up to 0.
    shares = row[len(target):]
    return [Ratio(-share, shares[-1]) for share in shares[:-1]]


def witness_of(vectors, target):
    """Give even integers on which each vector is 0 and the target, no combination, is not."""
    basis, kept = basis_of(vectors)
    row = reduced(row_of(target, len(vectors), len(vectors) + 1), basis)
    free = first_place(row, len(target))
    numbers = {pivot: Ratio(-line[free], line[pivot]) for pivot, line in basis}
    factor = 2 * common_multiple([number.bottom for number in numbers.values()])
    numbers = {**numbers, free: Ratio(1)}
    return [(numbers[place] * factor).top if place in numbers else 0 for place in range(len(target))]


def spanning_flags(vectors, targets):
    """Give, for each choice of vectors, whether all targets are combinations of the chosen ones.

    A choice is a number: the bit at a place says whether the vector at this place is in it.
    """
    if any([shares_of(vectors, target) is None for target in targets]):
        return [False] * (1 << len(vectors))
    # What the vectors combine to is 0 where it is 0 at all pivots: the rest may be left out.
    pivots = [pivot for pivot, row in basis_of(vectors)[0]]
    lines = [row_of(vector, 0, 0) for vector in [*vectors, *targets]]
    states = [[[line[pivot] for pivot in pivots] for line in lines]]
    for vector in vectors:
        states = [rows[1:] for rows in states] + [cleared_by_first(rows) for rows in states]
    return [all([first_place(row, len(pivots)) is None for row in rows]) for rows in states]


def cleared_by_first(rows):
    """Give the rows behind the first one, cleared at a place where the first one is not 0."""
    first = rows[0]
    pivot = first_place(first, len(first))
    if pivot is None:
        return rows[1:]
    return [cleared(row, first, pivot) for row in rows[1:]]


def row_of(vector, place, many):
    """Give the row of a vector, with this place among so many shares."""
    factor = common_multiple([number.bottom for number in vector])
    numbers = [number.top * (factor // number.bottom) for number in vector]
    return numbers + [factor if at == place else 0 for at in range(many)]


def reduced(row, basis):
    """Give a multiple of the row, less multiples of the basis, that is 0 at all pivots."""
    for pivot, line in basis:
        row = cleared(row, line, pivot)
    return row


def cleared(row, line, pivot):
    """Give a multiple of the row, less one of the line, that is 0 at the line's pivot."""
    if row[pivot] == 0:
        return row
    shared = common_divisor(row[pivot], line[pivot])
    up = line[pivot] // shared
    down = row[pivot] // shared
    return shortened([up * number - down * other for number, other in zip(row, line)])


def shortened(row):
    """Give the row without the factor that all its integers share, which keeps them small."""
    shared = 0
    for number in row:
        shared = common_divisor(shared, number)
        if shared == 1:
            return row
    return row if shared == 0 else [number // shared for number in row]


def first_place(row, width):
    """Give the first place below the width at which the row is not 0, or None."""
    for place in range(width):
        if row[place] != 0:
            return place
    return None


def common_multiple(numbers):
    """Give the least common multiple of integers of at least 1."""
    multiple = 1
    for number in numbers:
        multiple = multiple * (number // common_divisor(multiple, number))
    return multiple
