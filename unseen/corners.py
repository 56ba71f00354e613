"""What mixtures get, and the corners of what a mixture of columns can hold the rows to.

Nothing is checked here, so that numbers beyond the bounds of a table (differences of rows, say) serve as well.
"""

from unseen.fractions import below, made, plus, times


def weighed(values, mixture):
    total = (0, 1)
    for value, share in zip(values, mixture):
        total = plus(total, times(value, share))
    return total


def row_gets(row, mixture):
    return weighed([(number, 1) for number in row], mixture)


def all_get(rows, mixture):
    return [row_gets(row, mixture) for row in rows]


def greatest(values):
    most = values[0]
    for value in values:
        if below(most, value):
            most = value
    return most


# A table has 4 columns at the most, so unfolding by the first row stays short and needs no division.
def determinant(square):
    if len(square) == 0:
        return 1
    total = 0
    sign = 1
    for column in range(len(square)):
        rest = [row[:column] + row[column + 1:] for row in square[1:]]
        total = total + sign * square[0][column] * determinant(rest)
        sign = -sign
    return total


def with_column(square, column, numbers):
    return [row[:column] + [number] + row[column + 1:] for row, number in zip(square, numbers)]


# The one answer to the equations as a list of fractions, or None where there is none or more than one.
def solution(square, numbers):
    whole = determinant(square)
    if whole == 0:
        return None
    sign = 1 if whole > 0 else -1
    parts = [determinant(with_column(square, column, numbers)) for column in range(len(square))]
    return [made(sign * part, sign * whole) for part in parts]


def choices(count):
    found = [[]]
    for place in range(count):
        found = found + [chosen + [place] for chosen in found]
    return found


def spread(shares, places, count):
    mixture = [(0, 1)] * count
    for share, place in zip(shares, places):
        mixture[place] = share
    return mixture


# The shares of the columns by which each of the rows gets the same number, whatever it is: it is left out
# of the unknowns by asking that no row gets more or less than the first.
def level(table, rows, columns):
    first = table[rows[0]]
    equations = [[1] * len(columns)]
    for row in rows[1:]:
        equations.append([table[row][column] - first[column] for column in columns])
    return solution(equations, [1] + [0] * (len(rows) - 1))


# Shares of nought are left out: such a corner is found where just the columns with a share are chosen.
def corner(table, rows, columns):
    shares = level(table, rows, columns)
    if shares is None or not all([below((0, 1), share) for share in shares]):
        return None
    mixture = spread(shares, columns, len(table[0]))
    gains = all_get(table, mixture)
    number = gains[rows[0]]
    if any([below(number, gain) for gain in gains]):
        return None
    return (mixture, number)


# All corners of the mixtures of columns with the numbers that no row gets more than.
# The least number that a mixture can hold the rows to, and mixtures from which neither would turn,
# are always found at corners, so there is no need to look anywhere else.
def corners_of(table):
    found = []
    for columns in choices(len(table[0])):
        for rows in choices(len(table)):
            if 0 < len(rows) == len(columns):
                place = corner(table, rows, columns)
                # Where more rows than needed get the number, several choices come to one corner.
                if place is not None and place not in found:
                    found.append(place)
    return found
