import itertools
import random
import unittest
from fractions import Fraction

from samples import Asks, pair, random_table, random_tables
from unseen.corners import choices, corners_of, determinant, greatest, row_gets, solution, weighed
from unseen.tables import turned


def eliminated(rows):
    """The one answer to equations over Fraction, or None; more equations than unknowns may be handed in."""
    rows = [[Fraction(number) for number in row] for row in rows]
    unknowns = len(rows[0]) - 1
    for column in range(unknowns):
        pivot = next((row for row in range(column, len(rows)) if rows[row][column] != 0), None)
        if pivot is None:
            return None
        rows[column], rows[pivot] = rows[pivot], rows[column]
        rows[column] = [number / rows[column][column] for number in rows[column]]
        for row in range(len(rows)):
            if row != column:
                factor = rows[row][column]
                rows[row] = [a - factor * b for a, b in zip(rows[row], rows[column])]
    if any(row[-1] != 0 for row in rows[unknowns:]):
        return None
    return [row[-1] for row in rows[:unknowns]]


def corners_slowly(table):
    """Every choice of as many bounds as there are columns, held tight, kept where all bounds hold."""
    width = len(table[0])
    bounds = [[int(place == column) for place in range(width)] + [0, 0] for column in range(width)]
    bounds += [[-number for number in row] + [1, 0] for row in table]
    whole = [1] * width + [0, 1]
    found = set()
    for tight in itertools.combinations(bounds, width):
        answer = eliminated([whole] + list(tight))
        if answer and all(sum(a * b for a, b in zip(bound, answer)) >= 0 for bound in bounds):
            found.add(tuple(answer))
    return found


class TestWeighed(unittest.TestCase):
    def test_weighed(self):
        self.assertEqual(weighed([(1, 2), (-1, 3)], [(1, 2), (1, 2)]), (1, 12))
        self.assertEqual(weighed([(5, 1)], [(1, 1)]), (5, 1))

    def test_row_gets(self):
        self.assertEqual(row_gets([1, 2, 3], [(1, 3), (1, 3), (1, 3)]), (2, 1))
        self.assertEqual(row_gets([200, -200], [(1, 4), (3, 4)]), (-100, 1))

    def test_greatest(self):
        self.assertEqual(greatest([(-1, 2)]), (-1, 2))
        self.assertEqual(greatest([(1, 3), (1, 2), (2, 5)]), (1, 2))
        self.assertEqual(greatest([(-1, 2), (-1, 3), (-2, 5)]), (-1, 3))


class TestEquations(unittest.TestCase):
    def test_determinant(self):
        self.assertEqual(determinant([]), 1)
        self.assertEqual(determinant([[-7]]), -7)
        self.assertEqual(determinant([[1, 2], [3, 4]]), -2)
        self.assertEqual(determinant([[2, 0, 1], [1, 3, 2], [1, 1, 1]]), 0)
        self.assertEqual(determinant([[0, 0, 1], [0, 1, 0], [1, 0, 0]]), -1)

    def test_solution(self):
        self.assertEqual(solution([[2]], [1]), [(1, 2)])
        self.assertEqual(solution([[1, 2], [2, 4]], [1, 2]), None)
        chance = random.Random(12)
        for turn in range(200):
            size = chance.randint(1, 5)
            square = random_table(chance, size, size, 2)
            numbers = [chance.randint(-3, 3) for row in range(size)]
            slow = eliminated([row + [number] for row, number in zip(square, numbers)])
            self.assertEqual(solution(square, numbers), slow and [pair(value) for value in slow])

    def test_choices(self):
        self.assertEqual(choices(0), [[]])
        self.assertEqual(sorted(choices(3)), [[], [0], [0, 1], [0, 1, 2], [0, 2], [1], [1, 2], [2]])


class TestCorners(Asks, unittest.TestCase):
    def test_by_hand(self):
        self.assertEqual(corners_of([[7]]), [([(1, 1)], (7, 1))])
        self.assertEqual(corners_of([[1], [3], [2]]), [([(1, 1)], (3, 1))])
        self.assertEqual(corners_of([[3, -1], [-2, 4]]), [
            ([(1, 1), (0, 1)], (3, 1)), ([(0, 1), (1, 1)], (4, 1)), ([(1, 2), (1, 2)], (1, 1))])

    def test_rows_alike_come_to_each_corner_once(self):
        self.assertEqual(corners_of([[1, 2]] * 4), [([(1, 1), (0, 1)], (1, 1)), ([(0, 1), (1, 1)], (2, 1))])

    def test_all_corners_are_found_and_no_others(self):
        chance = random.Random(13)
        for most in (1, 2, 200):
            for turn in range(40):
                table = random_table(chance, chance.randint(1, 4), chance.randint(1, 4), most)
                told = corners_of(table)
                slow = corners_slowly(table)
                self.assertEqual(len(told), len(slow))
                self.assertEqual({tuple(Fraction(*part) for part in mixture + [number]) for mixture, number in told},
                                 slow)

    def test_the_least_number_is_what_the_other_side_can_get(self):
        for most in (1, 3, 100):
            for table in random_tables(most, 40, most):
                held = min(Fraction(*number) for mixture, number in corners_of(table))
                gained = min(Fraction(*number) for mixture, number in corners_of(turned(table)))
                self.assertEqual(held, -gained)

    def test_nothing_is_kept_or_changed(self):
        self.leaves_alone(corners_of, [[3, -1], [-2, 4]])


if __name__ == "__main__":
    unittest.main()
