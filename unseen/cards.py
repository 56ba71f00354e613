"""Cards that are never worth it: rows that a mixture of the others beats, and what is left without them."""

from unseen.answers import Beaten, Best
from unseen.corners import spread
from unseen.errors import NoCard
from unseen.fractions import below, is_whole
from unseen.solving import evened
from unseen.tables import check_alike, check_table, columns_of


def check_row(table, row):
    if not is_whole(row) or not 0 <= row < len(table):
        raise NoCard("a row is told by its place, counted from 0")


# By how much each other row gets more than the row, column by column.
def leads(table, row):
    found = []
    for other in table[:row] + table[row + 1:]:
        found.append([number - own for number, own in zip(other, table[row])])
    return found


# A mixture of the others gets more by each column just if it is sure of more than nought by their leads;
# if none is, some mixture of columns leaves none of the others a lead.
def beaten(table, row):
    check_table(table)
    check_row(table, row)
    if len(table) == 1:
        return Best(spread([(1, 1)], [0], len(table[0])))
    answer = evened(leads(table, row))
    if below((0, 1), answer.value):
        return Beaten(answer.mine[:row] + [(0, 1)] + answer.mine[row:])
    return Best(answer.theirs)


def part(table, rows, columns):
    found = []
    for row in rows:
        found.append([table[row][column] for column in columns])
    return found


def unbeaten(table, places):
    return [place for row, place in enumerate(places) if isinstance(beaten(table, row), Best)]


# All that are beaten at one time may go at once: what beats a row needs none of the others that go with it.
def struck(one, other):
    check_alike(one, other)
    rows = list(range(len(one)))
    columns = list(range(len(one[0])))
    while True:
        rows_left = unbeaten(part(one, rows, columns), rows)
        columns_left = unbeaten(columns_of(part(other, rows, columns)), columns)
        if rows_left == rows and columns_left == columns:
            return (rows, columns)
        rows = rows_left
        columns = columns_left
