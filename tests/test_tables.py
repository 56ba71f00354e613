import copy
import random
import unittest
from fractions import Fraction

from samples import (GOOD_TABLES, Asks, all_of, bad_mixtures, bad_tables, pair, random_mixture, random_table,
                     random_tables)
from unseen.errors import BadMixture, BadTable, Unlike
from unseen.tables import best, got, saddles, sure, together, turned


def got_slowly(table, mine, theirs):
    return sum(Fraction(*mine[row]) * Fraction(*theirs[column]) * table[row][column]
               for row in range(len(table)) for column in range(len(table[0])))


class TestWhatIsATable(Asks, unittest.TestCase):
    def test_good_tables_are_taken(self):
        for table in GOOD_TABLES:
            mine, theirs = all_of(len(table), 0), all_of(len(table[0]), 0)
            got(table, mine, theirs)
            best(table, theirs)
            turned(table)
            together([[0]], table)
            sure(table)
            saddles(table)

    def test_every_shape_is_taken(self):
        for rows in range(1, 5):
            for columns in range(1, 5):
                self.assertEqual(sure([[0] * columns for row in range(rows)]), (0, 0))

    def test_one_list_may_stand_for_several_rows(self):
        row = [1, 2]
        self.assertEqual(turned([row, row]), [[-1, -1], [-2, -2]])

    def test_the_numbers_at_the_bounds_are_taken_and_those_beyond_are_not(self):
        self.assertEqual(sure([[100, -100]]), (-100, -100))
        for number in (101, -101):
            self.refuses(BadTable, sure, [[number]])

    def test_bad_tables_are_refused(self):
        one = [(1, 1)]
        for thing in bad_tables():
            self.refuses(BadTable, got, thing, one, one)
            self.refuses(BadTable, best, thing, one)
            self.refuses(BadTable, turned, thing)
            self.refuses(BadTable, together, thing, [[0]])
            self.refuses(BadTable, together, [[0]], thing)
            self.refuses(BadTable, sure, thing)
            self.refuses(BadTable, saddles, thing)

    def test_a_bad_table_is_refused_ahead_of_all_else(self):
        large = [[100, 1, 2]] * 3
        for thing in bad_tables():
            self.refuses(BadTable, got, thing, None, None)
            self.refuses(BadTable, best, thing, None)
            self.refuses(BadTable, together, thing, large)
            self.refuses(BadTable, together, large, thing)
            self.refuses(BadTable, together, thing, thing)

    def test_a_refused_table_is_left_as_it_was(self):
        for thing in ([[1, 2], [3]], [[True]], [[101, 0]], [(1,), [2]]):
            before = copy.deepcopy(thing)
            self.refuses(BadTable, turned, thing)
            self.assertEqual(repr(thing), repr(before))


class TestGot(Asks, unittest.TestCase):
    def test_by_hand(self):
        self.assertEqual(got([[7]], [(1, 1)], [(1, 1)]), (7, 1))
        self.assertEqual(got([[0]], [(1, 1)], [(1, 1)]), (0, 1))
        half = [(1, 2), (1, 2)]
        self.assertEqual(got([[3, -1], [-2, 4]], half, half), (1, 1))
        self.assertEqual(got([[3, -1], [-2, 4]], [(3, 5), (2, 5)], [(1, 1), (0, 1)]), (1, 1))
        self.assertEqual(got([[1, 2], [3, 4]], [(1, 3), (2, 3)], [(1, 4), (3, 4)]), (37, 12))
        self.assertEqual(got([[-100, 100]], [(1, 1)], half), (0, 1))

    def test_a_card_is_told_by_the_mixture_that_is_all_of_it(self):
        for table in GOOD_TABLES:
            for row in range(len(table)):
                for column in range(len(table[0])):
                    told = got(table, all_of(len(table), row), all_of(len(table[0]), column))
                    self.assertEqual(told, (table[row][column], 1))

    def test_many(self):
        chance = random.Random(2)
        for table in random_tables(1, 300):
            mine, theirs = random_mixture(chance, len(table)), random_mixture(chance, len(table[0]))
            told = got(table, mine, theirs)
            self.assertEqual(told, pair(got_slowly(table, mine, theirs)))
            self.assertIs(type(told), tuple)

    def test_shares_of_large_numbers(self):
        large = 10 ** 30
        shares = [(1, large), (large - 1, large)]
        self.assertEqual(got([[100, 0]], [(1, 1)], shares), (1, 10 ** 28))

    def test_bad_mixtures_are_refused_of_rows_and_of_columns(self):
        for rows in range(1, 5):
            for columns in range(1, 5):
                table = [[1] * columns for row in range(rows)]
                mine, theirs = all_of(rows, 0), all_of(columns, 0)
                for thing in bad_mixtures(rows):
                    self.refuses(BadMixture, got, table, thing, theirs)
                for thing in bad_mixtures(columns):
                    self.refuses(BadMixture, got, table, mine, thing)

    def test_mixtures_of_the_wrong_side_are_refused(self):
        two, three = all_of(2, 1), all_of(3, 1)
        table = [[1, 2, 3], [4, 5, 6]]
        self.assertEqual(got(table, two, three), (5, 1))
        self.refuses(BadMixture, got, table, three, two)
        self.refuses(BadMixture, got, table, two, two)
        self.refuses(BadMixture, got, table, three, three)

    def test_nothing_is_kept_or_changed(self):
        self.leaves_alone(got, [[3, -1], [-2, 4]], [(3, 5), (2, 5)], [(1, 2), (1, 2)])


class TestBest(Asks, unittest.TestCase):
    def test_by_hand(self):
        self.assertEqual(best([[7]], [(1, 1)]), ([0], (7, 1)))
        self.assertEqual(best([[1], [3], [2], [3]], [(1, 1)]), ([1, 3], (3, 1)))
        self.assertEqual(best([[3, -1], [-2, 4]], [(1, 2), (1, 2)]), ([0, 1], (1, 1)))
        self.assertEqual(best([[3, -1], [-2, 4]], [(1, 3), (2, 3)]), ([1], (2, 1)))
        self.assertEqual(best([[-5, -7], [-7, -5]], [(1, 3), (2, 3)]), ([1], (-17, 3)))

    def test_all_rows_are_best_where_all_are_alike(self):
        self.assertEqual(best([[2, 3]] * 4, [(1, 2), (1, 2)]), ([0, 1, 2, 3], (5, 2)))
        self.assertEqual(best([[0], [0]], [(1, 1)]), ([0, 1], (0, 1)))

    def test_many(self):
        chance = random.Random(4)
        for table in random_tables(3, 300, most=3):
            theirs = random_mixture(chance, len(table[0]))
            gains = [got_slowly(table, all_of(len(table), row), theirs) for row in range(len(table))]
            rows = [row for row in range(len(table)) if gains[row] == max(gains)]
            told = best(table, theirs)
            self.assertEqual(told, (rows, pair(max(gains))))
            self.assertEqual([type(part) for part in told], [list, tuple])

    def test_columns_are_asked_by_the_table_turned(self):
        self.assertEqual(best(turned([[3, -1], [-2, 4]]), [(1, 1), (0, 1)]), ([1], (1, 1)))

    def test_bad_mixtures_are_refused(self):
        for rows in range(1, 5):
            for columns in range(1, 5):
                for thing in bad_mixtures(columns):
                    self.refuses(BadMixture, best, [[1] * columns for row in range(rows)], thing)

    def test_a_mixture_of_rows_is_refused(self):
        self.refuses(BadMixture, best, [[1, 2, 3], [4, 5, 6]], [(1, 2), (1, 2)])

    def test_nothing_is_kept_or_changed(self):
        self.leaves_alone(best, [[3, -1], [-2, 4]], [(1, 2), (1, 2)])


class TestSure(Asks, unittest.TestCase):
    def test_by_hand(self):
        self.assertEqual(sure([[7]]), (7, 7))
        self.assertEqual(sure([[3, -1], [-2, 4]]), (-1, 3))
        self.assertEqual(sure([[0, -1, 1], [1, 0, -1], [-1, 1, 0]]), (-1, 1))
        self.assertEqual(sure([[4, 2, 2, 9], [1, 2, 0, -3], [4, 2, 2, 5]]), (2, 2))
        self.assertEqual(sure([[1, 2, 3, 4]]), (1, 1))
        self.assertEqual(sure([[1], [2], [3], [4]]), (4, 4))
        self.assertEqual(sure([[100, -100], [-100, 100]]), (-100, 100))

    def test_many(self):
        for table in random_tables(5, 300):
            columns = list(zip(*table))
            told = sure(table)
            self.assertEqual(told, (max(map(min, table)), min(map(max, columns))))
            self.assertIs(type(told), tuple)
            self.assertLessEqual(told[0], told[1])

    def test_the_other_one_sees_the_pair_the_other_way_round(self):
        for table in random_tables(6, 100):
            low, high = sure(table)
            self.assertEqual(sure(turned(table)), (-high, -low))

    def test_nothing_is_kept_or_changed(self):
        self.leaves_alone(sure, [[3, -1], [-2, 4]])


class TestSaddles(Asks, unittest.TestCase):
    def test_by_hand(self):
        self.assertEqual(saddles([[7]]), [(0, 0)])
        self.assertEqual(saddles([[3, -1], [-2, 4]]), [])
        self.assertEqual(saddles([[1, 2, 1, 4]]), [(0, 0), (0, 2)])
        self.assertEqual(saddles([[4], [2], [3], [4]]), [(0, 0), (3, 0)])
        self.assertEqual(saddles([[4, 2, 2, 9], [1, 2, 0, -3], [4, 2, 2, 5]]), [(0, 1), (0, 2), (2, 1), (2, 2)])
        self.assertEqual(saddles([[0, 0], [0, 0]]), [(0, 0), (0, 1), (1, 0), (1, 1)])

    def test_a_number_least_in_its_row_alone_is_no_saddle(self):
        self.assertEqual(saddles([[1, 2], [3, 4]]), [(1, 0)])

    def test_many(self):
        seen = {True: 0, False: 0}
        for table in random_tables(7, 500, most=4):
            columns = list(zip(*table))
            places = [(row, column) for row in range(len(table)) for column in range(len(table[0]))
                      if all(table[row][column] <= number for number in table[row])
                      and all(table[row][column] >= number for number in columns[column])]
            told = saddles(table)
            self.assertEqual(told, places)
            self.assertIs(type(told), list)
            self.assertTrue(all(type(place) is tuple for place in told))
            low, high = sure(table)
            self.assertEqual(told != [], low == high)
            seen[told != []] += 1
        self.assertGreater(min(seen.values()), 50)

    def test_nothing_is_kept_or_changed(self):
        self.leaves_alone(saddles, [[0, 0], [0, 0]])
        self.leaves_alone(saddles, [[3, -1], [-2, 4]])


class TestTurned(Asks, unittest.TestCase):
    def test_by_hand(self):
        self.assertEqual(turned([[7]]), [[-7]])
        self.assertEqual(turned([[0]]), [[0]])
        self.assertEqual(turned([[1, 2, 3]]), [[-1], [-2], [-3]])
        self.assertEqual(turned([[1], [2], [3], [4]]), [[-1, -2, -3, -4]])
        self.assertEqual(turned([[1, 2], [3, 4], [5, 6]]), [[-1, -3, -5], [-2, -4, -6]])
        self.assertEqual(turned([[100, -100]]), [[-100], [100]])

    def test_turned_twice_is_the_table(self):
        for table in random_tables(8, 100):
            self.assertEqual(turned(turned(table)), table)

    def test_the_other_one_gets_what_is_paid(self):
        chance = random.Random(9)
        for table in random_tables(10, 100):
            mine, theirs = random_mixture(chance, len(table)), random_mixture(chance, len(table[0]))
            paid = got(table, mine, theirs)
            self.assertEqual(got(turned(table), theirs, mine), (-paid[0], paid[1]))

    def test_nothing_is_kept_or_changed(self):
        self.leaves_alone(turned, [[0]])
        self.leaves_alone(turned, [[1, 2], [3, 4], [5, 6]])
        row = [1, 2]
        self.leaves_alone(turned, [row, row])


class TestTogether(Asks, unittest.TestCase):
    def test_by_hand(self):
        self.assertEqual(together([[1, 2], [3, 4]], [[10, 20], [30, 40]]), [
            [11, 21, 12, 22], [31, 41, 32, 42], [13, 23, 14, 24], [33, 43, 34, 44]])
        self.assertEqual(together([[1], [2]], [[10, 20]]), [[11, 21], [12, 22]])
        self.assertEqual(together([[10, 20]], [[1], [2]]), [[11, 21], [12, 22]])
        self.assertEqual(together([[1, 2]], [[10, 20]]), [[11, 21, 12, 22]])
        self.assertEqual(together([[7]], [[-7]]), [[0]])

    def test_nought_alone_leaves_a_table_as_it_is(self):
        for table in GOOD_TABLES:
            self.assertEqual(together(table, [[0]]), table)
            self.assertEqual(together([[0]], table), table)

    def test_four_rows_and_columns_are_told_and_more_are_refused(self):
        for rows, others in ((1, 1), (1, 4), (2, 2), (4, 1), (2, 3), (3, 2), (4, 2), (2, 4), (3, 3), (4, 4), (1, 3)):
            one, other = [[1] for row in range(rows)], [[2] for row in range(others)]
            wide, beside = [[1] * rows], [[2] * others]
            if rows * others <= 4:
                self.assertEqual(together(one, other), [[3]] * (rows * others))
                self.assertEqual(together(wide, beside), [[3] * (rows * others)])
            else:
                self.refuses(Unlike, together, one, other)
                self.refuses(Unlike, together, wide, beside)

    def test_four_by_four_of_a_row_and_a_column(self):
        self.assertEqual(together([[1], [2], [3], [4]], [[10, 20, 30, 40]])[3], [14, 24, 34, 44])

    def test_numbers_at_the_bounds_are_told_and_those_beyond_are_refused(self):
        self.assertEqual(together([[60]], [[40]]), [[100]])
        self.assertEqual(together([[-60]], [[-40]]), [[-100]])
        self.assertEqual(together([[100]], [[-100]]), [[0]])
        self.refuses(Unlike, together, [[60]], [[41]])
        self.refuses(Unlike, together, [[-60]], [[-41]])
        self.refuses(Unlike, together, [[100]], [[100]])
        self.refuses(Unlike, together, [[0, 0], [0, 51]], [[0, 0], [0, 50]])
        self.refuses(Unlike, together, [[0, 0], [0, -51]], [[-50, 0], [0, 0]])

    def test_many(self):
        chance = random.Random(11)
        for turn in range(200):
            rows, others = chance.choice(((1, 1), (1, 2), (1, 3), (1, 4), (2, 1), (2, 2), (3, 1), (4, 1)))
            columns, besides = chance.choice(((1, 1), (1, 2), (1, 3), (1, 4), (2, 1), (2, 2), (3, 1), (4, 1)))
            one, other = random_table(chance, rows, columns, 50), random_table(chance, others, besides, 50)
            told = together(one, other)
            for row in range(rows * others):
                for column in range(columns * besides):
                    first = one[row // others][column // besides]
                    second = other[row % others][column % besides]
                    self.assertEqual(told[row][column], first + second)
            self.assertEqual((len(told), len(told[0])), (rows * others, columns * besides))

    def test_nothing_is_kept_or_changed(self):
        self.leaves_alone(together, [[1, 2], [3, 4]], [[10, 20], [30, 40]])
        self.leaves_alone(together, [[1, 2], [3, 4]], [[0]])
        self.leaves_alone(together, [[0]], [[1, 2], [3, 4]])
        table = [[1, 2]]
        self.leaves_alone(together, table, table)

    def test_what_is_refused_is_left_as_it_was(self):
        one, other = [[1, 2, 3]], [[100, 5]]
        self.refuses(Unlike, together, one, other)
        self.assertEqual((one, other), ([[1, 2, 3]], [[100, 5]]))


if __name__ == "__main__":
    unittest.main()
