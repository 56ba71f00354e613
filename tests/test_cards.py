import copy
import itertools
import random
import unittest
from fractions import Fraction

from samples import (GOOD_TABLES, Asks, all_counts, bad_tables, is_beaten, is_best, is_settled, is_told_mixture,
                     many_pairs, many_tables, odd_things, random_table, tables_of)
from unseen.answers import Beaten, Best
from unseen.cards import beaten, struck
from unseen.errors import BadTable, NoCard, Unlike
from unseen.solving import settled


def noughts(rows, columns):
    return [[0] * columns for row in range(rows)]


def sides(table):
    return [list(column) for column in zip(*table)]


def part(table, rows, columns):
    return [[table[row][column] for column in columns] for row in rows]


def beaten_by_two(table, row):
    """Whether a mixture of one or two other rows gets more by each column: bounds on the share of the first."""
    others = [other for place, other in enumerate(table) if place != row]
    for one, other in itertools.product(others, repeat=2):
        low, high, possible = Fraction(0), Fraction(1), []
        for a, b, own in zip(one, other, table[row]):
            # share * (a - b) > own - b
            if a == b:
                possible.append(b > own)
            elif a > b:
                low = max(low, Fraction(own - b, a - b))
                possible.append(Fraction(own - b, a - b) < 1)
            else:
                high = min(high, Fraction(own - b, a - b))
                possible.append(Fraction(own - b, a - b) > 0)
        if all(possible) and low < high:
            return True
    return False


def turns_out(table, row):
    """Whether the row is beaten, by what is told and checked here by its own sums."""
    told = beaten(table, row)
    if isinstance(told, Beaten):
        assert is_beaten(table, row, told.mixture)
        return True
    assert is_best(table, row, told.mixture)
    return False


def struck_one_by_one(chance, one, other):
    """What is left where one beaten card is struck at a time, whichever it is."""
    rows, columns = list(range(len(one))), list(range(len(one[0])))
    while True:
        mine, theirs = part(one, rows, columns), sides(part(other, rows, columns))
        out = [("row", row) for place, row in enumerate(rows) if turns_out(mine, place)]
        out += [("column", column) for place, column in enumerate(columns) if turns_out(theirs, place)]
        if not out:
            return (rows, columns)
        side, card = chance.choice(out)
        (rows if side == "row" else columns).remove(card)


class TestBeaten(Asks, unittest.TestCase):
    def check(self, table):
        """How many rows are beaten."""
        count = 0
        for row in range(len(table)):
            before = copy.deepcopy(table)
            told = beaten(table, row)
            self.assertEqual(table, before)
            if type(told) is Beaten:
                self.assertTrue(is_beaten(table, row, told.mixture), (table, row, told.mixture))
                count += 1
            else:
                self.assertIs(type(told), Best)
                self.assertTrue(is_best(table, row, told.mixture), (table, row, told.mixture))
            self.assertIs(told.shows(table, row), True)
        self.assertLess(count, len(table))
        return count

    def check_row(self, kind, table, row):
        self.check(table)
        self.assertIs(type(beaten(table, row)), kind)

    def test_by_hand(self):
        self.assertEqual(beaten([[5, 5], [4, 4]], 1).mixture, [(1, 1), (0, 1)])
        self.assertEqual(beaten([[4, 4], [5, 5]], 0).mixture, [(0, 1), (1, 1)])
        self.assertEqual(beaten([[3, 0], [1, 1], [0, 3]], 1).mixture, [(1, 2), (0, 1), (1, 2)])
        self.assertEqual(beaten([[2, 0], [1, 1], [0, 2]], 1).mixture, [(1, 2), (1, 2)])
        self.assertEqual(beaten([[7]], 0).mixture, [(1, 1)])

    def test_beaten_by_a_mixture_alone(self):
        self.check_row(Beaten, [[3, 0], [0, 3], [1, 1]], 2)
        self.check_row(Beaten, [[4, 0, 0], [0, 4, 0], [0, 0, 4], [1, 1, 1]], 3)
        self.check_row(Best, [[3, 0, 0], [0, 3, 0], [0, 0, 3], [1, 1, 1]], 3)

    def test_as_much_by_one_column_is_not_beaten(self):
        self.check_row(Best, [[5, 4], [4, 4]], 1)
        self.check_row(Best, [[5, 5, 4], [4, 4, 4]], 1)
        self.check_row(Best, [[4, 4], [4, 4]], 1)
        self.check_row(Best, [[2, 0], [0, 2], [1, 1]], 2)
        self.check_row(Best, [[100, -100], [-100, 100], [0, 0]], 2)

    def test_at_the_bounds(self):
        self.check_row(Beaten, [[100] * 4, [-100] * 4], 1)
        self.check_row(Beaten, [[-100] * 4, [100] * 4], 0)
        self.check_row(Beaten, [[100, -98], [-100, 100], [-1, -1]], 2)
        self.check_row(Best, [[-100] * 4] * 4, 2)
        self.check_row(Best, [[100] * 4] * 4, 3)

    def test_a_row_alone_is_not_beaten(self):
        for columns in range(1, 5):
            told = beaten([[-100] * columns], 0)
            self.assertIs(type(told), Best)
            self.assertTrue(is_told_mixture(told.mixture, columns))

    def test_of_one_column_just_the_rows_below_the_most(self):
        for table in tables_of(4, 1, (-1, 0, 1)):
            for row in range(4):
                self.check_row(Best if table[row] == max(table) else Beaten, table, row)

    def test_rows_alike_are_both_beaten_or_both_not(self):
        self.check_row(Best, [[1, 2], [1, 2]], 0)
        for row in (1, 2):
            self.check_row(Beaten, [[2, 3], [1, 2], [1, 2]], row)

    def test_every_small_table(self):
        for rows, columns in ((1, 1), (1, 2), (2, 1), (2, 2), (3, 1), (1, 4), (3, 2)):
            for table in tables_of(rows, columns, (-1, 0, 1)):
                self.check(table)

    def test_many(self):
        seen = {True: 0, False: 0}
        for table in many_tables(60, 130):
            count = self.check(table)
            seen[True] += count
            seen[False] += len(table) - count
        self.assertGreater(min(seen.values()), 500)

    def test_what_one_or_two_rows_beat_is_beaten(self):
        seen = {True: 0, False: 0}
        for table in many_tables(61, 30):
            for row in range(len(table)):
                if beaten_by_two(table, row):
                    self.assertIs(type(beaten(table, row)), Beaten, (table, row))
                elif len(table) < 4 or len(table[0]) < 3:
                    # By two columns a mixture of two rows is enough, and there are no more than two others.
                    self.assertIs(type(beaten(table, row)), Best, (table, row))
                seen[beaten_by_two(table, row)] += 1
        self.assertGreater(min(seen.values()), 50)

    def test_bad_tables_are_refused(self):
        for thing in bad_tables():
            self.refuses(BadTable, beaten, thing, 0)
            # Ahead of a row that there is not.
            self.refuses(BadTable, beaten, thing, 4)
            self.refuses(BadTable, beaten, thing, None)

    def test_rows_that_there_are_not_are_refused(self):
        for rows, columns in all_counts():
            table = noughts(rows, columns)
            for row in (-1, -rows, -rows - 1, rows, rows + 1, 100, -100, 10 ** 40, -10 ** 40):
                self.refuses(NoCard, beaten, table, row)
            for row in range(rows):
                beaten(table, row)

    def test_what_is_no_number_is_no_row(self):
        things = [thing for thing in odd_things() if type(thing) is not int]
        things += [0.0, "0", [0], (0,), [[0]], {0}, {0: 0}, b"0", Fraction(0), Fraction(1), [], (0, 1), 1.5]
        for table in GOOD_TABLES:
            for thing in things:
                self.refuses(NoCard, beaten, table, thing)
        for thing in (True, False):
            self.refuses(NoCard, beaten, [[1], [2]], thing)

    def test_nothing_is_kept_or_changed(self):
        for table in GOOD_TABLES:
            for row in range(len(table)):
                self.leaves_alone(beaten, table, row)
        self.leaves_alone(beaten, [[5, 5], [4, 4]], 1)
        same = [1, 2]
        self.leaves_alone(beaten, [same, same], 1)


class TestStruck(Asks, unittest.TestCase):
    def check(self, chance, one, other):
        before = copy.deepcopy((one, other))
        told = struck(one, other)
        self.assertEqual((one, other), before)
        self.assertIs(type(told), tuple)
        self.assertEqual([type(side) for side in told], [list, list])
        self.assertEqual(told, struck_one_by_one(chance, one, other), (one, other))
        rows, columns = told
        for card in rows + columns:
            self.assertIs(type(card), int)
        answer = settled(one, other)
        self.assertTrue(is_settled(one, other, answer.mine, answer.theirs))
        self.assertTrue(all(row in rows for row, share in enumerate(answer.mine) if share != (0, 1)))
        self.assertTrue(all(column in columns for column, share in enumerate(answer.theirs) if share != (0, 1)))
        return told

    def test_by_hand(self):
        self.assertEqual(struck([[7]], [[-7]]), ([0], [0]))
        self.assertEqual(struck([[-1, -3], [0, -2]], [[-1, 0], [-3, -2]]), ([1], [1]))
        self.assertEqual(struck([[1, 2, 3]], [[0, 5, 4]]), ([0], [1]))
        self.assertEqual(struck([[1], [3], [2]], [[0], [4], [5]]), ([1], [0]))
        self.assertEqual(struck([[3, 0], [0, 2]], [[2, 0], [0, 3]]), ([0, 1], [0, 1]))

    def test_columns_are_beaten_by_the_others_table_where_he_gets_more(self):
        self.assertEqual(struck([[0, 0]], [[1, 2]]), ([0], [1]))
        self.assertEqual(struck([[2, 1]], [[0, 0]]), ([0], [0, 1]))
        self.assertEqual(struck([[0], [0]], [[1], [2]]), ([0, 1], [0]))

    def test_places_are_those_of_the_tables_handed_in(self):
        one = [[0, 0, 0], [5, 1, 5], [5, 5, 1]]
        other = [[9, 0, 0], [1, 3, 2], [1, 2, 3]]
        self.assertEqual(struck(one, other), ([1, 2], [1, 2]))

    def test_step_by_step(self):
        # Column 2 goes first, then row 2, then column 0, then row 0.
        one = [[9, 1, 0], [0, 2, 0], [1, 1, 9]]
        other = [[2, 3, 0], [2, 3, 0], [9, 1, 0]]
        self.assertEqual(struck(one, other), ([1], [1]))

    def test_by_a_mixture_alone(self):
        self.assertEqual(struck([[3, 0], [0, 3], [1, 1]], noughts(3, 2)), ([0, 1], [0, 1]))
        self.assertEqual(struck([[2, 0], [0, 2], [1, 1]], noughts(3, 2)), ([0, 1, 2], [0, 1]))
        self.assertEqual(struck(noughts(2, 3), [[3, 0, 1], [0, 3, 1]]), ([0, 1], [0, 1]))

    def test_of_one_number_all_are_left(self):
        for rows, columns in all_counts():
            for number in (-100, 0, 100):
                table = [[number] * columns for row in range(rows)]
                self.assertEqual(struck(table, table), (list(range(rows)), list(range(columns))))

    def test_every_small_pair(self):
        chance = random.Random(62)
        for one in tables_of(2, 2, (0, 1)):
            for other in tables_of(2, 2, (-1, 0, 1)):
                self.check(chance, one, other)

    def test_many(self):
        chance = random.Random(63)
        seen = {True: 0, False: 0}
        for one, other in many_pairs(64, 130):
            rows, columns = self.check(chance, one, other)
            seen[len(rows) + len(columns) < len(one) + len(one[0])] += 1
        self.assertGreater(min(seen.values()), 300)

    def test_long_walks(self):
        # Numbers that rise along both sides strike nearly all, by turns.
        chance = random.Random(65)
        seen = 0
        for turn in range(150):
            one, other = random_table(chance, 4, 4, 9), random_table(chance, 4, 4, 9)
            for place in range(4):
                for beside in range(4):
                    one[place][beside] += 3 * place
                    other[place][beside] += 3 * beside
            rows, columns = self.check(chance, one, other)
            seen += len(rows) + len(columns) < 6
        self.assertGreater(seen, 30)

    def test_no_struck_card_has_a_share_where_neither_would_turn(self):
        for one, other in many_pairs(66, 30):
            rows, columns = struck(one, other)
            for row in range(len(one)):
                for column in range(len(one[0])):
                    mine = [(int(place == row), 1) for place in range(len(one))]
                    theirs = [(int(place == column), 1) for place in range(len(one[0]))]
                    if is_settled(one, other, mine, theirs):
                        self.assertIn(row, rows)
                        self.assertIn(column, columns)

    def test_bad_tables_are_refused_in_each_place(self):
        for thing in bad_tables():
            self.refuses(BadTable, struck, thing, [[0]])
            self.refuses(BadTable, struck, [[0]], thing)
            self.refuses(BadTable, struck, thing, thing)
            self.refuses(BadTable, struck, thing, [[0] * 4] * 3)
            self.refuses(BadTable, struck, [[0] * 4] * 3, thing)

    def test_tables_of_other_counts_are_refused(self):
        for counts in all_counts():
            for others in all_counts():
                if counts != others:
                    self.refuses(Unlike, struck, noughts(*counts), noughts(*others))

    def test_nothing_is_kept_or_changed(self):
        for table in GOOD_TABLES:
            self.leaves_alone(struck, table, [[-number for number in row] for row in table])
            self.leaves_alone(struck, table, table)
        self.leaves_alone(struck, [[-1, -3], [0, -2]], [[-1, 0], [-3, -2]])


if __name__ == "__main__":
    unittest.main()
