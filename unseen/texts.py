"""Tables as texts."""

from unseen.errors import BadText
from unseen.tables import LEAST_NUMBER, MOST_NUMBER, check_table, is_table


def row_written(row):
    return " ".join([str(number) for number in row])


def written(table):
    check_table(table)
    return "; ".join([row_written(row) for row in table])


# There are few numbers, and looking them up takes none that is written otherwise, as Python's own reading would.
def numbers_by_figures():
    found = {}
    for number in range(LEAST_NUMBER, MOST_NUMBER + 1):
        found[str(number)] = number
    return found


def row_read(text, numbers):
    words = text.split(" ")
    if not all([word in numbers for word in words]):
        raise BadText("numbers are whole, from -100 to 100, in figures, with one blank between")
    return [numbers[word] for word in words]


def read(text):
    if not isinstance(text, str):
        raise BadText("a table is read from a text")
    numbers = numbers_by_figures()
    table = [row_read(row, numbers) for row in text.split("; ")]
    if not is_table(table):
        raise BadText("a table has 1 to 4 rows, of as many numbers, 1 to 4")
    return table
