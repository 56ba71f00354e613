"""What either can be sure of by one table, and mixtures from which neither would turn by two."""

from unseen.answers import Settled, Solved, all_among, shared
from unseen.corners import corners_of
from unseen.fractions import below
from unseen.tables import best_rows, check_alike, check_table, columns_of, from_other_side


def lowest(corners):
    found = corners[0]
    for place in corners:
        if below(place[1], found[1]):
            found = place
    return found


# What the one can get and what the other can hold him to come to the same number, so one of both is enough.
# Not checked, so that it serves for a table of differences too.
def evened(table):
    theirs = lowest(corners_of(table))
    mine = lowest(corners_of(from_other_side(table)))
    return Solved(theirs[1], mine[0], theirs[0])


def solved(table):
    check_table(table)
    return evened(table)


# Each mixture of columns at a corner, with its own cards and the rows that are best answers to it.
def answered_corners(table):
    mixtures = [place[0] for place in corners_of(table)]
    return [(mixture, shared(mixture), best_rows(table, mixture)[0]) for mixture in mixtures]


# There are always two such mixtures at corners, so the walk never comes to its end.
def settled(one, other):
    check_alike(one, other)
    by_columns = answered_corners(one)
    for mine, rows, columns_best in answered_corners(columns_of(other)):
        for theirs, columns, rows_best in by_columns:
            if all_among(rows, rows_best) and all_among(columns, columns_best):
                return Settled(mine, theirs)


def sure_pairs(one, other):
    check_alike(one, other)
    most = [max(column) for column in columns_of(one)]
    found = []
    for row in range(len(one)):
        for column in range(len(one[0])):
            if one[row][column] == most[column] and other[row][column] == max(other[row]):
                found.append((row, column))
    return found
