"""What several tests ask with: tables and mixtures as they should be, and things that are none."""

import copy
import random
from fractions import Fraction

GOOD_TABLES = [
    [[0]],
    [[-100]],
    [[100]],
    [[1, 2, 3, 4]],
    [[1], [2], [3], [4]],
    [[3, -1], [-2, 4]],
    [[0, -1, 1], [1, 0, -1], [-1, 1, 0]],
    [[4, 2, 2, 9], [1, 2, 0, -3], [4, 2, 2, 5]],
    [[100, -100, 0, 7], [-100, 100, 1, -7], [5, 5, 5, 5], [0, 0, 0, 0]],
]


def holds_itself():
    ring = []
    ring.append(ring)
    return ring


class Odd:
    """Agrees to every comparison, so a check by == alone would let it through."""

    def __eq__(self, other):
        return True

    def __lt__(self, other):
        return True

    __le__ = __gt__ = __ge__ = __lt__


def odd_things():
    return [
        None, True, False, 0, 1, -1, 1.0, float("nan"), 1j, "", "1", "1 2", b"1", (), {}, set(), frozenset(),
        object(), Odd(), int, len, Ellipsis, range(1), iter([[1]]), {0: [1]}, Fraction(1, 2), holds_itself(),
    ]


def bad_tables():
    numbers = [True, False, 101, -101, 10 ** 40, -10 ** 40, 1.0, 0.0, "1", None, (1,), [1], (1, 1), 1j,
               Fraction(1), Odd(), object()]
    found = odd_things()
    found += [[], [[]], [[], []], [[], [1]], [[1], []]]
    found += [[[1]] * 5, [[1] * 5], [[1, 2, 3, 4, 5]] * 4, [[1, 2, 3, 4]] * 5, [[1]] * 1000, [[1] * 1000]]
    found += [[[1, 2], [3]], [[1], [2, 3]], [[1, 2], [3, 4], [5, 6, 7]], [[1, 2], [3, 4], []]]
    found += [([1],), ([1, 2], [3, 4]), [(1,)], [(1, 2), (3, 4)], [[1, 2], (3, 4)], [[[1]]], [{0: 1}], ["1"], [{1}]]
    found += [[thing] for thing in odd_things()]
    found += [[[1], thing] for thing in odd_things()]
    for number in numbers:
        found += [[[number]], [[1, number]], [[number, 1]], [[1, 2], [3, number]], [[1, 2], [number, 4]]]
    return found


def bad_mixtures(count):
    """Things that are no mixture of `count` cards."""
    good = all_of(count, 0)
    nought = [(0, 1)] * count
    first = [
        (1, 2), (2, 2), (2, 1), (-1, 1), (1, -1), (-1, -1), (0, 1), (1, 0), (0, 0), (100, 100), (3, 2),
        (True, 1), (1, True), (True, True), [1, 1], (1,), (1, 1, 1), (1.0, 1), (1, 1.0), ("1", 1), (1, None),
        1, True, 1.0, "11", None, (), {}, Fraction(1), Odd(), (Odd(), 1), (1, Odd()), [(1, 1)], ((1, 1),),
    ]
    found = odd_things() + [[], nought, tuple(good), good + [(0, 1)], good[:-1], good * 100, [good], {0: (1, 1)}]
    found += [[thing] + nought[1:] for thing in first]
    if count > 1:
        last = [(0, 2), (0, -1), (0, 100), (False, 1), (0, True), [0, 1], (0,), (0, 0), (0, 1, 1), 0, False, None,
                (1, 2), (1, 100), (1, 1), (-1, 2), (0.0, 1), Odd()]
        found += [good[:-1] + [thing] for thing in last]
        rest = nought[2:]
        found += [pair + rest for pair in (
            [(3, 2), (-1, 2)], [(2, 1), (-1, 1)], [(-1, 2), (3, 2)], [(1, 2), (2, 4)], [(2, 4), (1, 2)],
            [(1, 2), (1, 3)], [(2, 3), (2, 3)], [(-1, -2), (1, 2)], [(1, 2), [1, 2]], [(1, 2), (1, 2, 1)],
            [(50, 100), (1, 2)], [(10 ** 30, 10 ** 30 + 1), (1, 10 ** 30)],
        )]
    return found


def all_of(count, card):
    return [(1, 1) if place == card else (0, 1) for place in range(count)]


def pair(value):
    return (value.numerator, value.denominator)


def random_mixture(chance, count):
    weights = [chance.choice((0, 0, 1, 2, 3, 7)) for card in range(count)]
    weights[chance.randrange(count)] += 1
    return [pair(Fraction(weight, sum(weights))) for weight in weights]


def random_table(chance, rows, columns, most=100):
    return [[chance.randint(-most, most) for column in range(columns)] for row in range(rows)]


def random_tables(seed, times, most=100):
    chance = random.Random(seed)
    for turn in range(times):
        yield random_table(chance, chance.randint(1, 4), chance.randint(1, 4), most)


def lists_within(thing):
    """The identities of all lists in what is told, at any depth."""
    if isinstance(thing, list):
        return [id(thing)] + [one for part in thing for one in lists_within(part)]
    if isinstance(thing, tuple):
        return [one for part in thing for one in lists_within(part)]
    return []


class Asks:
    """Checks that every promise about handing in and handing out asks for; mixed into test cases."""

    def refuses(self, error, ask, *things):
        """Refused with just that class."""
        with self.assertRaises(error, msg=repr(things)) as caught:
            ask(*things)
        self.assertIs(type(caught.exception), error, repr(things))

    def leaves_alone(self, ask, *things):
        """What is handed in stays as it was, and no list of it or of an earlier answer is told."""
        before = copy.deepcopy(things)
        first = ask(*things)
        second = ask(*things)
        self.assertEqual(things, before)
        self.assertEqual(first, second)
        # The same list may be handed in twice, but each told one stands alone.
        told = lists_within(first) + lists_within(second)
        self.assertEqual(len(set(told)), len(told))
        self.assertEqual(set(told) & set(lists_within(things)), set())
        spoil(first)
        self.assertEqual(things, before)
        self.assertEqual(ask(*things), second)


def spoil(thing):
    if isinstance(thing, (list, tuple)):
        for part in thing:
            spoil(part)
    if isinstance(thing, list):
        thing.append("spoilt")
