"""What several tests ask with: tables and mixtures as they should be, and things that are none."""

import copy
import math
import random
from fractions import Fraction

from unseen.answers import Answer

GOOD_TABLES = [
    [[0]],
    [[-100]],
    [[100]],
    [[1, 2, 3, 4]],
    [[1], [2], [3], [4]],
    [[3, -1], [-2, 4]],
    [[0, -1, 1], [1, 0, -1], [-1, 1, 0]],
    [[4, 2, 2, 9], [1, 2, 0, -3], [4, 2, 2, 5]],
    [[100, -100, 0, 7], [-100, 100, 1, -7], [5, 5, 5, 5], [0, 0, 0, 0]],
]


def holds_itself():
    ring = []
    ring.append(ring)
    return ring


class Odd:
    """Agrees to every comparison, so a check by == alone would let it through."""

    def __eq__(self, other):
        return True

    def __lt__(self, other):
        return True

    __le__ = __gt__ = __ge__ = __lt__


def odd_things():
    return [
        None, True, False, 0, 1, -1, 1.0, float("nan"), 1j, "", "1", "1 2", b"1", (), {}, set(), frozenset(),
        object(), Odd(), int, len, Ellipsis, range(1), iter([[1]]), {0: [1]}, Fraction(1, 2), holds_itself(),
    ]


def bad_tables():
    numbers = [True, False, 101, -101, 10 ** 40, -10 ** 40, 1.0, 0.0, "1", None, (1,), [1], (1, 1), 1j,
               Fraction(1), Odd(), object()]
    found = odd_things()
    found += [[], [[]], [[], []], [[], [1]], [[1], []]]
    found += [[[1]] * 5, [[1] * 5], [[1, 2, 3, 4, 5]] * 4, [[1, 2, 3, 4]] * 5, [[1]] * 1000, [[1] * 1000]]
    found += [[[1, 2], [3]], [[1], [2, 3]], [[1, 2], [3, 4], [5, 6, 7]], [[1, 2], [3, 4], []]]
    found += [([1],), ([1, 2], [3, 4]), [(1,)], [(1, 2), (3, 4)], [[1, 2], (3, 4)], [[[1]]], [{0: 1}], ["1"], [{1}]]
    found += [[thing] for thing in odd_things()]
    found += [[[1], thing] for thing in odd_things()]
    for number in numbers:
        found += [[[number]], [[1, number]], [[number, 1]], [[1, 2], [3, number]], [[1, 2], [number, 4]]]
    return found


def bad_mixtures(count):
    """Things that are no mixture of `count` cards."""
    good = all_of(count, 0)
    nought = [(0, 1)] * count
    first = [
        (1, 2), (2, 2), (2, 1), (-1, 1), (1, -1), (-1, -1), (0, 1), (1, 0), (0, 0), (100, 100), (3, 2),
        (True, 1), (1, True), (True, True), [1, 1], (1,), (1, 1, 1), (1.0, 1), (1, 1.0), ("1", 1), (1, None),
        1, True, 1.0, "11", None, (), {}, Fraction(1), Odd(), (Odd(), 1), (1, Odd()), [(1, 1)], ((1, 1),),
    ]
    found = odd_things() + [[], nought, tuple(good), good + [(0, 1)], good[:-1], good * 100, [good], {0: (1, 1)}]
    found += [[thing] + nought[1:] for thing in first]
    if count > 1:
        last = [(0, 2), (0, -1), (0, 100), (False, 1), (0, True), [0, 1], (0,), (0, 0), (0, 1, 1), 0, False, None,
                (1, 2), (1, 100), (1, 1), (-1, 2), (0.0, 1), Odd()]
        found += [good[:-1] + [thing] for thing in last]
        rest = nought[2:]
        found += [pair + rest for pair in (
            [(3, 2), (-1, 2)], [(2, 1), (-1, 1)], [(-1, 2), (3, 2)], [(1, 2), (2, 4)], [(2, 4), (1, 2)],
            [(1, 2), (1, 3)], [(2, 3), (2, 3)], [(-1, -2), (1, 2)], [(1, 2), [1, 2]], [(1, 2), (1, 2, 1)],
            [(50, 100), (1, 2)], [(10 ** 30, 10 ** 30 + 1), (1, 10 ** 30)],
        )]
    return found


def all_of(count, card):
    return [(1, 1) if place == card else (0, 1) for place in range(count)]


def pair(value):
    return (value.numerator, value.denominator)


def random_mixture(chance, count):
    weights = [chance.choice((0, 0, 1, 2, 3, 7)) for card in range(count)]
    weights[chance.randrange(count)] += 1
    return [pair(Fraction(weight, sum(weights))) for weight in weights]


def random_table(chance, rows, columns, most=100):
    return [[chance.randint(-most, most) for column in range(columns)] for row in range(rows)]


def random_tables(seed, times, most=100):
    chance = random.Random(seed)
    for turn in range(times):
        yield random_table(chance, chance.randint(1, 4), chance.randint(1, 4), most)


def all_counts():
    """Every count of rows and columns."""
    return [(rows, columns) for rows in range(1, 5) for columns in range(1, 5)]


def with_alike(chance, table):
    """The table with a row or a column put over another one, so that two are alike."""
    table = copy.deepcopy(table)
    if chance.random() < 0.5:
        table[chance.randrange(len(table))] = list(chance.choice(table))
    else:
        place, source = chance.randrange(len(table[0])), chance.randrange(len(table[0]))
        for row in table:
            row[place] = row[source]
    return table


def with_blend(chance, table):
    """The table with a row that comes to the half of two others, where that is whole."""
    table = copy.deepcopy(table)
    one, other = chance.choice(table), chance.choice(table)
    table[chance.randrange(len(table))] = [(a + b) // 2 for a, b in zip(one, other)]
    return table


def many_tables(seed, times):
    """`times` tables of each count of rows and columns, most of them with numbers from -1 to 1."""
    chance = random.Random(seed)
    for rows, columns in all_counts():
        for turn in range(times):
            table = random_table(chance, rows, columns, chance.choice((1, 1, 1, 1, 1, 2, 5, 100)))
            change = chance.choice((None, None, None, None, with_alike, with_blend))
            yield change(chance, table) if change else table


def many_pairs(seed, times):
    """`times` pairs of tables of each count; some for and against, some of one number, some the same twice."""
    chance = random.Random(seed)
    for one in many_tables(seed, times):
        rows, columns = len(one), len(one[0])
        other = random_table(chance, rows, columns, chance.choice((1, 1, 1, 1, 2, 5, 100)))
        against = [[-number for number in row] for row in one]
        even = [[chance.randint(-1, 1)] * columns for row in range(rows)]
        yield chance.choice(((one, other),) * 8 + ((one, against), (one, copy.deepcopy(one)), (one, even), (even, one)))


def tables_of(rows, columns, numbers):
    """Every table of these counts with just these numbers."""
    found = [[]]
    for place in range(rows * columns):
        found = [line + [number] for line in found for number in numbers]
    return [[line[row * columns:(row + 1) * columns] for row in range(rows)] for line in found]


def is_told_fraction(thing):
    """A tuple of two whole numbers in lowest terms, the lower one above 0."""
    if type(thing) is not tuple or [type(part) for part in thing] != [int, int]:
        return False
    return thing[1] > 0 and math.gcd(*thing) == 1


def is_told_mixture(thing, count):
    if type(thing) is not list or len(thing) != count or not all(is_told_fraction(share) for share in thing):
        return False
    shares = [Fraction(*share) for share in thing]
    return min(shares) >= 0 and sum(shares) == 1


def by_columns(table, mine):
    """What a mixture of rows gets by each column."""
    return [sum(Fraction(*share) * row[column] for row, share in zip(table, mine)) for column in range(len(table[0]))]


def by_rows(table, theirs):
    """What each row gets by a mixture of columns."""
    return [sum(Fraction(*share) * number for number, share in zip(row, theirs)) for row in table]


def is_solved(table, value, mine, theirs):
    """Whether it is as [3] tells, reckoned here."""
    if not (is_told_mixture(mine, len(table)) and is_told_mixture(theirs, len(table[0]))):
        return False
    return min(by_columns(table, mine)) >= Fraction(*value) >= max(by_rows(table, theirs))


def is_settled(one, other, mine, theirs):
    """Whether it is as [6] tells, reckoned here."""
    if not (is_told_mixture(mine, len(one)) and is_told_mixture(theirs, len(one[0]))):
        return False
    rows, columns = by_rows(one, theirs), by_columns(other, mine)
    return (all(gain == max(rows) for gain, share in zip(rows, mine) if share[0] > 0)
            and all(gain == max(columns) for gain, share in zip(columns, theirs) if share[0] > 0))


def is_beaten(table, row, mixture):
    """Whether it is as [7] tells of a mixture that beats, reckoned here."""
    if not is_told_mixture(mixture, len(table)) or mixture[row] != (0, 1):
        return False
    return all(gain > number for gain, number in zip(by_columns(table, mixture), table[row]))


def is_best(table, row, mixture):
    """Whether it is as [7] tells of a mixture to which the row is a best answer, reckoned here."""
    if not is_told_mixture(mixture, len(table[0])):
        return False
    gains = by_rows(table, mixture)
    return gains[row] == max(gains)


def parts_of(thing):
    if isinstance(thing, Answer):
        return list(vars(thing).values())
    return list(thing) if isinstance(thing, (list, tuple)) else []


def plain(thing):
    """What is told, as what can be compared and is not changed with it."""
    if isinstance(thing, Answer):
        return (type(thing), plain(vars(thing)))
    return copy.deepcopy(thing)


def lists_within(thing):
    """The identities of all lists in what is told, at any depth, also in the fields of an answer."""
    own = [id(thing)] if isinstance(thing, list) else []
    return own + [one for part in parts_of(thing) for one in lists_within(part)]


class Asks:
    """Checks that every promise about handing in and handing out asks for; mixed into test cases."""

    def refuses(self, error, ask, *things):
        """Refused with just that class."""
        with self.assertRaises(error, msg=repr(things)) as caught:
            ask(*things)
        self.assertIs(type(caught.exception), error, repr(things))

    def leaves_alone(self, ask, *things):
        """What is handed in stays as it was, and no list of it or of an earlier answer is told."""
        things = copy.deepcopy(things)
        before = copy.deepcopy(things)
        first = ask(*things)
        second = ask(*things)
        told = plain(second)
        self.assertEqual(things, before)
        self.assertEqual(plain(first), told)
        # The same list may be handed in twice, but each told one stands alone.
        lists = lists_within(first) + lists_within(second)
        self.assertEqual(len(set(lists)), len(lists))
        self.assertEqual(set(lists) & set(lists_within(things)), set())
        spoil(first)
        self.assertEqual(things, before)
        self.assertEqual(plain(second), told)
        self.assertEqual(plain(ask(*things)), told)
        # What was told does not follow what is done to the things handed in.
        spoil(things)
        self.assertEqual(plain(second), told)


def spoil(thing):
    for part in parts_of(thing):
        spoil(part)
    if isinstance(thing, list):
        thing.append("spoilt")
