"""Linear equations modulo 2."""

# The ones among many zeros and ones are the bits of one integer. A row is a sum of equations: (unknowns, value, used),
# where used are the equations of the sum.


def bits_of(number):
    """The places of the bits of an integer that are 1, ascending."""
    places = []
    left = number
    while left:
        top = left.bit_length() - 1
        places.append(top)
        left ^= 1 << top
    return places[::-1]


def number_with(places):
    """The integer with these bits."""
    number = 0
    for place in places:
        number ^= 1 << place
    return number


def row_without_tops(row, rows):
    """The row after each highest unknown that is the highest one of another row is removed by that row."""
    unknowns, value, used = row
    while unknowns.bit_length() in rows:
        more_unknowns, more_value, more_used = rows[unknowns.bit_length()]
        unknowns ^= more_unknowns
        value ^= more_value
        used ^= more_used
    return (unknowns, value, used)


def ones_of(rows):
    """The unknowns that are 1 if those that are the highest one of no row are 0."""
    ones = 0
    # The other unknowns of a row are lower than its highest one, so their values are known by then.
    for length in sorted(rows):
        unknowns, value, used = rows[length]
        if (len(bits_of(unknowns & ones)) + value) % 2 == 1:
            ones ^= 1 << (length - 1)
    return bits_of(ones)


def solve(equations, *, count):
    """A solution of linear equations modulo 2 with so many unknowns, or equations that contradict each other."""
    # The rows by the bit length of their unknowns, which tells the highest one. An unknown that is not the highest one
    # of any row stays 0, so `count` decides nothing.
    rows = {}
    for index, (unknowns, value) in enumerate(equations):
        row = row_without_tops((number_with(unknowns), value, 1 << index), rows)
        if row[0] != 0:
            rows[row[0].bit_length()] = row
        elif row[1] == 1:
            return ("contradiction", bits_of(row[2]))
    return ("solution", ones_of(rows))
