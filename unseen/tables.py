"""What is got by mixtures, best answers, what cards alone are sure of, tables turned and together."""

from unseen.corners import all_get, greatest, weighed
from unseen.errors import BadMixture, BadTable, Unlike
from unseen.fractions import below, is_fraction, is_whole, plus

MOST_CARDS = 4
LEAST_NUMBER = -100
MOST_NUMBER = 100


def is_within(number):
    return LEAST_NUMBER <= number <= MOST_NUMBER


def is_row(thing):
    if not isinstance(thing, list) or not 1 <= len(thing) <= MOST_CARDS:
        return False
    return all([is_whole(number) and is_within(number) for number in thing])


def is_table(thing):
    if not isinstance(thing, list) or not 1 <= len(thing) <= MOST_CARDS:
        return False
    if not all([is_row(row) for row in thing]):
        return False
    return all([len(row) == len(thing[0]) for row in thing])


def is_share(thing):
    return is_fraction(thing) and not below(thing, (0, 1))


def is_mixture(thing, count):
    if not isinstance(thing, list) or len(thing) != count:
        return False
    if not all([is_share(share) for share in thing]):
        return False
    total = (0, 1)
    for share in thing:
        total = plus(total, share)
    return total == (1, 1)


def check_table(thing):
    if not is_table(thing):
        raise BadTable("a table is a list of 1 to 4 rows, lists of as many whole numbers from -100 to 100")


def check_mixture(thing, count):
    if not is_mixture(thing, count):
        raise BadMixture("a mixture is a list of a fraction from 0 on for each card, together 1")


def of_same_counts(one, other):
    return len(one) == len(other) and len(one[0]) == len(other[0])


def check_alike(one, other):
    check_table(one)
    check_table(other)
    if not of_same_counts(one, other):
        raise Unlike("both tables have as many rows and columns")


def got(table, mine, theirs):
    check_table(table)
    check_mixture(mine, len(table))
    check_mixture(theirs, len(table[0]))
    return weighed(all_get(table, theirs), mine)


# Not checked: an answer shows whether it is so of a table beyond the bounds too.
def best_rows(table, theirs):
    gains = all_get(table, theirs)
    most = greatest(gains)
    return ([place for place, gain in enumerate(gains) if gain == most], most)


def best(table, theirs):
    check_table(table)
    check_mixture(theirs, len(table[0]))
    return best_rows(table, theirs)


def column_of(table, column):
    return [row[column] for row in table]


def columns_of(table):
    return [column_of(table, column) for column in range(len(table[0]))]


# Not checked, so that a table of differences, with numbers beyond the bounds, can be seen so too.
def from_other_side(table):
    found = []
    for column in columns_of(table):
        found.append([-number for number in column])
    return found


def turned(table):
    check_table(table)
    return from_other_side(table)


def sums(one, other):
    found = []
    for first in one:
        found.extend([first + second for second in other])
    return found


def together(one, other):
    check_table(one)
    check_table(other)
    found = []
    for row in one:
        found.extend([sums(row, beside) for beside in other])
    if not is_table(found):
        raise Unlike("two tables together have 4 rows and columns at the most, and numbers from -100 to 100")
    return found


def least_of_rows(table):
    return [min(row) for row in table]


def most_of_columns(table):
    return [max(column) for column in columns_of(table)]


def sure(table):
    check_table(table)
    return (max(least_of_rows(table)), min(most_of_columns(table)))


def saddles(table):
    check_table(table)
    least = least_of_rows(table)
    most = most_of_columns(table)
    found = []
    for row in range(len(table)):
        for column in range(len(table[0])):
            if least[row] == table[row][column] == most[column]:
                found.append((row, column))
    return found
