"""Rows: tuples of stretches (a, b), rising, no two of them meeting."""


def row_of(pairs):
    stretches = []
    for a, b in sorted([(a, b) for a, b in pairs if a <= b]):
        # One that begins right behind the last end meets it, so both are one stretch.
        if stretches and a <= stretches[-1][1] + 1:
            stretches[-1] = (stretches[-1][0], max(stretches[-1][1], b))
        else:
            stretches.append((a, b))
    return tuple(stretches)


def count_up_to(pairs, number):
    # Halving serves the stretches of a row and the rows of a picture alike: both rise by what stands first.
    low = 0
    high = len(pairs)
    while low < high:
        middle = (low + high) // 2
        if pairs[middle][0] <= number:
            low = middle + 1
        else:
            high = middle
    return low


def row_has(row, x):
    begun = count_up_to(row, x)
    return begun > 0 and x <= row[begun - 1][1]


def row_join(one, other):
    return row_of(list(one + other))


def row_common(one, other):
    shared = []
    here = 0
    there = 0
    while here < len(one) and there < len(other):
        a = max(one[here][0], other[there][0])
        b = min(one[here][1], other[there][1])
        if a <= b:
            shared.append((a, b))
        # The stretch that ends first can have nothing in common with what follows in the other row.
        if one[here][1] < other[there][1]:
            here += 1
        else:
            there += 1
    return tuple(shared)


def row_less(one, other):
    return row_either(one, row_common(one, other))


def row_either(one, other):
    # At each stretch's begin and right behind its end, one row changes between in and out:
    # a cell is in just one of both where an odd number of changes lies at it or ahead of it.
    stretches = one + other
    changes = sorted([a for a, b in stretches] + [b + 1 for a, b in stretches])
    return row_of([(changes[k], changes[k + 1] - 1) for k in range(0, len(changes), 2)])


def row_count(row):
    return sum([b - a + 1 for a, b in row])


def row_moved(row, by):
    return tuple([(a + by, b + by) for a, b in row])


def row_spread(row, low, high):
    return row_of([(a + low, b + high) for a, b in row])


def row_shrunk(row, low, high):
    # The cells from x + low to x + high have no gap among them, so they are in where one stretch has them all.
    return row_of([(a - low, b - high) for a, b in row])


def row_gaps(row):
    return tuple([(row[k][1] + 1, row[k + 1][0] - 1) for k in range(len(row) - 1)])
