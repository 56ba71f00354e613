import copy
import random
import unittest
from fractions import Fraction

from samples import (GOOD_TABLES, Asks, all_counts, all_of, bad_tables, is_settled, is_solved, is_told_fraction,
                     many_pairs, many_tables, random_table, tables_of)
from unseen.answers import Settled, Solved
from unseen.errors import BadTable, Unlike
from unseen.solving import settled, solved, sure_pairs
from unseen.tables import saddles, sure, together, turned


def same_number(number, rows, columns):
    return [[number] * columns for row in range(rows)]


def against(table):
    return [[-number for number in row] for row in table]


class TestSolved(Asks, unittest.TestCase):
    def check(self, table):
        before = copy.deepcopy(table)
        told = solved(table)
        self.assertEqual(table, before)
        self.assertIs(type(told), Solved)
        self.assertTrue(is_told_fraction(told.value), told.value)
        self.assertTrue(is_solved(table, told.value, told.mine, told.theirs), (table, vars(told)))
        self.assertIs(told.shows(table), True)
        return told

    def test_by_hand(self):
        for table, value, mine, theirs in (
                ([[7]], (7, 1), [(1, 1)], [(1, 1)]),
                ([[3, 1, 2]], (1, 1), [(1, 1)], all_of(3, 1)),
                ([[3], [5], [4]], (5, 1), all_of(3, 1), [(1, 1)]),
                ([[3, -1], [-2, 4]], (1, 1), [(3, 5), (2, 5)], [(1, 2), (1, 2)]),
                ([[1, 2], [3, 4]], (3, 1), all_of(2, 1), all_of(2, 0)),
                ([[0, -1, 1], [1, 0, -1], [-1, 1, 0]], (0, 1), [(1, 3)] * 3, [(1, 3)] * 3),
                ([[100, -100], [-100, 100]], (0, 1), [(1, 2)] * 2, [(1, 2)] * 2),
                ([[int(row == column) for column in range(4)] for row in range(4)], (1, 4), [(1, 4)] * 4, [(1, 4)] * 4),
        ):
            told = self.check(table)
            self.assertEqual((told.value, told.mine, told.theirs), (value, mine, theirs))

    def test_good_tables(self):
        for table in GOOD_TABLES:
            self.check(table)

    def test_of_one_number_at_every_count(self):
        for rows, columns in all_counts():
            for number in (-100, -1, 0, 1, 100):
                self.assertEqual(self.check(same_number(number, rows, columns)).value, (number, 1))

    def test_with_rows_and_columns_alike(self):
        for table, value in (([[3, -1], [-2, 4], [3, -1], [-2, 4]], (1, 1)),
                             ([[3, -1, 3, -1], [-2, 4, -2, 4]], (1, 1)),
                             ([[3, 3, -1, -1], [3, 3, -1, -1], [-2, -2, 4, 4], [-2, -2, 4, 4]], (1, 1)),
                             ([[1, 1], [1, 1], [0, 2]], (1, 1))):
            self.assertEqual(self.check(table).value, value)

    def test_every_small_table(self):
        for rows, columns in ((1, 1), (1, 2), (2, 1), (2, 2), (1, 4), (4, 1), (2, 3), (3, 2)):
            for table in tables_of(rows, columns, (-1, 0, 1)):
                self.check(table)

    def test_many(self):
        for table in many_tables(40, 130):
            self.check(table)

    def test_numbers_at_the_bounds(self):
        chance = random.Random(41)
        for rows, columns in all_counts():
            for turn in range(15):
                self.check([[chance.choice((-100, 100, 99, -99)) for column in range(columns)] for row in range(rows)])

    def test_the_number_is_between_what_cards_alone_are_sure_of(self):
        for table in many_tables(42, 20):
            low, high = sure(table)
            value = Fraction(*solved(table).value)
            self.assertLessEqual(low, value)
            self.assertLessEqual(value, high)
            if saddles(table):
                row, column = saddles(table)[0]
                self.assertEqual(value, table[row][column])

    def test_turned_it_is_the_other_way_round_nought(self):
        for table in many_tables(43, 20):
            value = solved(table).value
            self.assertEqual(solved(turned(table)).value, (-value[0], value[1]))

    def test_together_the_numbers_are_added(self):
        chance = random.Random(44)
        for turn in range(60):
            one, other = random_table(chance, 2, 2, 50), random_table(chance, 2, 2, 50)
            added = Fraction(*solved(one).value) + Fraction(*solved(other).value)
            self.assertEqual(Fraction(*solved(together(one, other)).value), added)

    def test_bad_tables_are_refused(self):
        for thing in bad_tables():
            self.refuses(BadTable, solved, thing)

    def test_nothing_is_kept_or_changed(self):
        for table in GOOD_TABLES:
            self.leaves_alone(solved, table)
        row = [1, 2]
        self.leaves_alone(solved, [row, row])

    def test_one_answer_does_not_follow_another(self):
        table = [[3, -1], [-2, 4]]
        first = solved(table)
        first.mine[0] = (7, 1)
        first.theirs.clear()
        first.value = (5, 1)
        self.check(table)


class TestSettled(Asks, unittest.TestCase):
    def check(self, one, other):
        before = copy.deepcopy((one, other))
        told = settled(one, other)
        self.assertEqual((one, other), before)
        self.assertIs(type(told), Settled)
        self.assertTrue(is_settled(one, other, told.mine, told.theirs), (one, other, vars(told)))
        self.assertIs(told.shows(one, other), True)
        return told

    def test_by_hand(self):
        for one, other, mine, theirs in (
                ([[7]], [[-7]], [(1, 1)], [(1, 1)]),
                ([[1, 2, 3]], [[0, 5, 4]], [(1, 1)], all_of(3, 1)),
                ([[1], [3], [2]], [[0], [4], [5]], all_of(3, 1), [(1, 1)]),
                ([[-1, -3], [0, -2]], [[-1, 0], [-3, -2]], all_of(2, 1), all_of(2, 1)),
                ([[1, -1], [-1, 1]], [[-1, 1], [1, -1]], [(1, 2)] * 2, [(1, 2)] * 2),
                ([[1, 0], [0, 2]], [[0, 1], [3, 0]], [(3, 4), (1, 4)], [(2, 3), (1, 3)]),
        ):
            told = self.check(one, other)
            self.assertEqual((told.mine, told.theirs), (mine, theirs))

    def test_of_one_number_at_every_count(self):
        for rows, columns in all_counts():
            for number in (-100, 0, 100):
                for second in (-100, 0, 100):
                    self.check(same_number(number, rows, columns), same_number(second, rows, columns))

    def test_one_of_both_is_of_one_number(self):
        for table in many_tables(50, 20):
            even = same_number(0, len(table), len(table[0]))
            self.check(table, even)
            self.check(even, table)

    def test_every_small_pair(self):
        for rows, columns in ((1, 1), (1, 2), (2, 1), (1, 3), (3, 1)):
            for one in tables_of(rows, columns, (-1, 0, 1)):
                for other in tables_of(rows, columns, (-1, 0, 1)):
                    self.check(one, other)
        for one in tables_of(2, 2, (0, 1)):
            for other in tables_of(2, 2, (-1, 0, 1)):
                self.check(one, other)

    def test_many(self):
        for one, other in many_pairs(51, 130):
            self.check(one, other)

    def test_numbers_at_the_bounds(self):
        chance = random.Random(52)
        for rows, columns in all_counts():
            for turn in range(15):
                one, other = ([[chance.choice((-100, 100, 99)) for column in range(columns)] for row in range(rows)]
                              for side in range(2))
                self.check(one, other)

    def test_for_and_against_it_gets_the_one_number(self):
        for table in many_tables(53, 15):
            told = self.check(table, against(table))
            value = solved(table).value
            self.assertTrue(is_solved(table, value, told.mine, told.theirs))

    def test_bad_tables_are_refused_in_each_place(self):
        for thing in bad_tables():
            self.refuses(BadTable, settled, thing, [[0]])
            self.refuses(BadTable, settled, [[0]], thing)
            self.refuses(BadTable, settled, thing, thing)

    def test_a_bad_table_is_refused_ahead_of_other_counts(self):
        for thing in bad_tables():
            self.refuses(BadTable, settled, thing, [[0] * 4] * 3)
            self.refuses(BadTable, settled, [[0] * 4] * 3, thing)

    def test_tables_of_other_counts_are_refused(self):
        for counts in all_counts():
            for others in all_counts():
                if counts != others:
                    self.refuses(Unlike, settled, same_number(0, *counts), same_number(0, *others))

    def test_nothing_is_kept_or_changed(self):
        for table in GOOD_TABLES:
            self.leaves_alone(settled, table, against(table))
            # The same table may be handed in twice.
            self.leaves_alone(settled, table, table)


class TestSurePairs(Asks, unittest.TestCase):
    def reckoned(self, one, other):
        found = []
        for row in range(len(one)):
            for column in range(len(one[0])):
                if is_settled(one, other, all_of(len(one), row), all_of(len(one[0]), column)):
                    found.append((row, column))
        return found

    def check(self, one, other):
        before = copy.deepcopy((one, other))
        told = sure_pairs(one, other)
        self.assertEqual((one, other), before)
        self.assertEqual(told, self.reckoned(one, other))
        self.assertIs(type(told), list)
        self.assertTrue(all(type(place) is tuple for place in told))
        return told

    def test_by_hand(self):
        self.assertEqual(sure_pairs([[7]], [[-7]]), [(0, 0)])
        self.assertEqual(sure_pairs([[3, 0], [0, 2]], [[2, 0], [0, 3]]), [(0, 0), (1, 1)])
        self.assertEqual(sure_pairs([[1, -1], [-1, 1]], [[-1, 1], [1, -1]]), [])
        self.assertEqual(sure_pairs([[-1, -3], [0, -2]], [[-1, 0], [-3, -2]]), [(1, 1)])
        self.assertEqual(sure_pairs([[0, 0, 0]], [[5, 4, 5]]), [(0, 0), (0, 2)])
        self.assertEqual(sure_pairs([[5], [4], [5]], [[0], [0], [9]]), [(0, 0), (2, 0)])

    def test_of_one_number_every_place(self):
        for rows, columns in all_counts():
            places = [(row, column) for row in range(rows) for column in range(columns)]
            self.assertEqual(sure_pairs(same_number(-100, rows, columns), same_number(100, rows, columns)), places)

    def test_every_small_pair(self):
        for one in tables_of(2, 2, (0, 1)):
            for other in tables_of(2, 2, (-1, 0, 1)):
                self.check(one, other)

    def test_many(self):
        seen = {0: 0, 1: 0, 2: 0}
        for one, other in many_pairs(54, 130):
            seen[min(2, len(self.check(one, other)))] += 1
        self.assertGreater(min(seen.values()), 50)

    def test_for_and_against_they_are_the_saddles(self):
        for table in many_tables(55, 20):
            self.assertEqual(sure_pairs(table, against(table)), saddles(table))

    def test_bad_tables_are_refused_in_each_place(self):
        for thing in bad_tables():
            self.refuses(BadTable, sure_pairs, thing, [[0]])
            self.refuses(BadTable, sure_pairs, [[0]], thing)
            self.refuses(BadTable, sure_pairs, thing, thing)
            self.refuses(BadTable, sure_pairs, thing, [[0] * 4] * 3)
            self.refuses(BadTable, sure_pairs, [[0] * 4] * 3, thing)

    def test_tables_of_other_counts_are_refused(self):
        for counts in all_counts():
            for others in all_counts():
                if counts != others:
                    self.refuses(Unlike, sure_pairs, same_number(0, *counts), same_number(0, *others))

    def test_nothing_is_kept_or_changed(self):
        for table in GOOD_TABLES:
            self.leaves_alone(sure_pairs, table, against(table))
            self.leaves_alone(sure_pairs, table, table)


if __name__ == "__main__":
    unittest.main()
