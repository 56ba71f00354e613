import copy
import random
import unittest
from fractions import Fraction

from samples import (GOOD_TABLES, all_of, by_columns, by_rows, is_beaten, is_best, is_settled, is_solved, many_pairs,
                     many_tables, pair, random_mixture)
from unseen.answers import Answer, Beaten, Best, Settled, Solved
from unseen.cards import beaten
from unseen.solving import settled, solved

HALF = [(1, 2), (1, 2)]


def spoilt_lists(mixture):
    """Lists of fractions near a mixture that are none for as many cards."""
    found = [[], mixture[:-1], mixture[1:], mixture + [(0, 1)], [(0, 1)] + mixture, mixture + mixture, mixture * 10,
             mixture + [(1, 1)], mixture + [(1, 2), (-1, 2)], [(0, 1)] * len(mixture), [(1, 1)] * (len(mixture) + 1)]
    for place, share in enumerate(mixture):
        for other in ((1, 7), (-1, 7), (1, 1), (-1, 1), (-2, 1)):
            changed = list(mixture)
            changed[place] = pair(Fraction(*share) + Fraction(*other))
            found.append(changed)
    for place in range(1, len(mixture)):
        # Together 1, but one share below nought.
        for less in (1, 2, 100):
            changed = list(mixture)
            changed[0] = pair(Fraction(*mixture[0]) - less)
            changed[place] = pair(Fraction(*mixture[place]) + less)
            found.append(changed)
            changed = list(mixture)
            changed[0] = pair(Fraction(*mixture[0]) + less)
            changed[place] = pair(Fraction(*mixture[place]) - less)
            found.append(changed)
    return found


class TestTheClasses(unittest.TestCase):
    def test_the_four_stand_straight_under_answer(self):
        self.assertEqual(Answer.__bases__, (object,))
        for one in (Solved, Settled, Beaten, Best):
            self.assertEqual(one.__bases__, (Answer,))

    def test_fields_are_set_under_their_names(self):
        answer = Solved((1, 2), [(1, 1)], HALF)
        self.assertEqual((answer.value, answer.mine, answer.theirs), ((1, 2), [(1, 1)], HALF))
        answer = Solved(theirs=HALF, mine=[(1, 1)], value=(1, 2))
        self.assertEqual((answer.value, answer.mine, answer.theirs), ((1, 2), [(1, 1)], HALF))
        answer = Settled([(1, 1)], HALF)
        self.assertEqual((answer.mine, answer.theirs), ([(1, 1)], HALF))
        answer = Settled(theirs=HALF, mine=[(1, 1)])
        self.assertEqual((answer.mine, answer.theirs), ([(1, 1)], HALF))
        self.assertEqual(Beaten(mixture=HALF).mixture, HALF)
        self.assertEqual(Best(mixture=HALF).mixture, HALF)

    def test_lists_are_copied(self):
        given = [(1, 2), (1, 2)]
        answers = [Solved((0, 1), given, given), Settled(given, given), Beaten(given), Best(given)]
        fields = [answers[0].mine, answers[0].theirs, answers[1].mine, answers[1].theirs, answers[2].mixture,
                  answers[3].mixture]
        self.assertTrue(all(type(field) is list for field in fields))
        self.assertEqual(len({id(field) for field in fields + [given]}), 7)
        given[0] = (1, 1)
        given.append((0, 1))
        self.assertEqual(fields, [HALF] * 6)
        fields[0].append((0, 1))
        self.assertEqual(given, [(1, 1), (1, 2), (0, 1)])
        self.assertEqual(fields[1:], [HALF] * 5)

    def test_any_list_of_fractions_is_taken(self):
        for given in ([], [(-1, 2)], [(3, 1)] * 9):
            self.assertEqual(Solved((-7, 3), given, given).mine, given)
            self.assertEqual(Settled(given, given).theirs, given)
            self.assertEqual(Beaten(given).mixture, given)
            self.assertEqual(Best(given).mixture, given)


class TestSolvedShows(unittest.TestCase):
    table = [[3, -1], [-2, 4]]

    def test_by_hand(self):
        self.assertIs(Solved((1, 1), [(3, 5), (2, 5)], HALF).shows(self.table), True)
        self.assertIs(Solved((1, 1), HALF, HALF).shows(self.table), False)
        self.assertIs(Solved((1, 1), [(3, 5), (2, 5)], [(3, 5), (2, 5)]).shows(self.table), False)
        self.assertIs(Solved((101, 100), [(3, 5), (2, 5)], HALF).shows(self.table), False)
        self.assertIs(Solved((99, 100), [(3, 5), (2, 5)], HALF).shows(self.table), False)
        self.assertIs(Solved((-1, 1), [(3, 5), (2, 5)], HALF).shows(self.table), False)

    def test_mine_is_of_rows_and_theirs_of_columns(self):
        self.assertIs(Solved((1, 1), [(1, 1)], all_of(3, 0)).shows([[1, 2, 3]]), True)
        self.assertIs(Solved((1, 1), all_of(3, 0), [(1, 1)]).shows([[1, 2, 3]]), False)
        self.assertIs(Solved((3, 1), all_of(3, 2), [(1, 1)]).shows([[1], [2], [3]]), True)

    def test_at_the_bounds(self):
        for number in (-100, 100):
            table = [[number] * 4 for row in range(4)]
            self.assertIs(Solved((number, 1), all_of(4, 3), all_of(4, 1)).shows(table), True)
            self.assertIs(Solved((-number, 1), all_of(4, 3), all_of(4, 1)).shows(table), False)

    def test_lists_that_are_no_mixtures(self):
        for table in GOOD_TABLES:
            answer = solved(table)
            self.assertIs(answer.shows(table), True)
            for thing in spoilt_lists(answer.mine):
                self.assertIs(Solved(answer.value, thing, answer.theirs).shows(table),
                              is_solved(table, answer.value, thing, answer.theirs), (table, thing))
            for thing in spoilt_lists(answer.theirs):
                self.assertIs(Solved(answer.value, answer.mine, thing).shows(table),
                              is_solved(table, answer.value, answer.mine, thing), (table, thing))

    def test_too_much_or_too_little_would_get_it_but_is_no_mixture(self):
        self.assertIs(Solved((5, 1), [(1, 1), (1, 1)], [(1, 1)]).shows([[5], [5]]), False)
        self.assertIs(Solved((5, 1), [(1, 1)], [(1, 2), (1, 3)]).shows([[5, 5]]), False)
        self.assertIs(Solved((-5, 1), [(1, 2)], [(1, 1)]).shows([[-5]]), False)
        self.assertIs(Solved((4, 1), [(1, 1)], [(-1, 1), (2, 1)]).shows([[4, 4]]), False)
        self.assertIs(Solved((0, 1), [], []).shows([[0]]), False)

    def test_a_value_that_is_no_fraction(self):
        for value in ((2, 2), (1, 0), (-1, -1), (1,), 1, True, (True, 1), None, "1", [1, 1]):
            self.assertIs(Solved(value, [(1, 1)], [(1, 1)]).shows([[1]]), False)

    def test_true_just_where_it_is_so(self):
        chance = random.Random(31)
        seen = {True: 0, False: 0}
        for table in many_tables(32, 60):
            mine, theirs = random_mixture(chance, len(table)), random_mixture(chance, len(table[0]))
            values = by_columns(table, mine) + by_rows(table, theirs) + [Fraction(0)]
            told = solved(table)
            for first in (mine, told.mine):
                for second in (theirs, told.theirs):
                    value = chance.choice((pair(chance.choice(values)), told.value))
                    so = is_solved(table, value, first, second)
                    self.assertIs(Solved(value, first, second).shows(table), so, (table, value, first, second))
                    seen[so] += 1
        self.assertGreater(min(seen.values()), 300)

    def test_after_a_field_has_been_changed(self):
        answer = solved(self.table)
        answer.value = (2, 1)
        self.assertIs(answer.shows(self.table), False)
        answer.value = (1, 1)
        self.assertIs(answer.shows(self.table), True)
        answer.mine[0] = (1, 5)
        self.assertIs(answer.shows(self.table), False)
        answer.mine = [(3, 5), (2, 5)]
        self.assertIs(answer.shows(self.table), True)
        answer.theirs.append((0, 1))
        self.assertIs(answer.shows(self.table), False)
        answer.theirs.pop()
        self.assertIs(answer.shows(self.table), True)
        answer.theirs.clear()
        self.assertIs(answer.shows(self.table), False)

    def test_of_another_table(self):
        answer = solved(self.table)
        self.assertIs(answer.shows([[3, -1], [-2, 5]]), False)
        self.assertIs(answer.shows([[1, 1], [1, 1]]), True)
        self.assertIs(answer.shows([[1]]), False)
        self.assertIs(answer.shows([[1, 1]]), False)
        self.assertIs(answer.shows([[1], [1]]), False)


class TestSettledShows(unittest.TestCase):
    one = [[3, 0], [0, 2]]
    other = [[2, 0], [0, 3]]

    def test_by_hand(self):
        mine, theirs = [(3, 5), (2, 5)], [(2, 5), (3, 5)]
        self.assertIs(Settled(mine, theirs).shows(self.one, self.other), True)
        self.assertIs(Settled(theirs, mine).shows(self.one, self.other), False)
        self.assertIs(Settled(theirs, mine).shows(self.other, self.one), True)
        self.assertIs(Settled(mine, mine).shows(self.one, self.other), False)
        self.assertIs(Settled(theirs, theirs).shows(self.one, self.other), False)
        self.assertIs(Settled(all_of(2, 0), all_of(2, 0)).shows(self.one, self.other), True)
        self.assertIs(Settled(all_of(2, 1), all_of(2, 1)).shows(self.one, self.other), True)
        self.assertIs(Settled(all_of(2, 0), all_of(2, 1)).shows(self.one, self.other), False)

    def test_the_other_gets_by_the_other_table_as_it_stands(self):
        self.assertIs(Settled([(1, 1)], all_of(3, 1)).shows([[1, 2, 3]], [[0, 5, 4]]), True)
        self.assertIs(Settled([(1, 1)], all_of(3, 2)).shows([[1, 2, 3]], [[0, 5, 4]]), False)
        self.assertIs(Settled([(1, 1)], all_of(3, 0)).shows([[1, 2, 3]], [[0, 5, 4]]), False)
        self.assertIs(Settled(all_of(3, 2), [(1, 1)]).shows([[1], [2], [3]], [[0], [5], [4]]), True)
        self.assertIs(Settled(all_of(3, 1), [(1, 1)]).shows([[1], [2], [3]], [[0], [5], [4]]), False)

    def test_only_one_of_both_would_turn(self):
        self.assertIs(Settled(all_of(2, 0), all_of(2, 0)).shows([[1, 0], [0, 0]], [[0, 1], [0, 0]]), False)
        self.assertIs(Settled(all_of(2, 0), all_of(2, 0)).shows([[0, 0], [1, 0]], [[1, 0], [0, 0]]), False)

    def test_a_small_share_counts_too(self):
        small = [(1, 10 ** 9), (10 ** 9 - 1, 10 ** 9)]
        self.assertIs(Settled(small, [(1, 1)]).shows([[0], [1]], [[0], [0]]), False)
        self.assertIs(Settled([(1, 1)], small).shows([[0, 0]], [[0, 1]]), False)

    def test_of_noughts_every_two_mixtures(self):
        chance = random.Random(33)
        for rows in range(1, 5):
            for columns in range(1, 5):
                noughts = [[0] * columns for row in range(rows)]
                mine, theirs = random_mixture(chance, rows), random_mixture(chance, columns)
                self.assertIs(Settled(mine, theirs).shows(noughts, noughts), True)

    def test_lists_that_are_no_mixtures(self):
        for one in GOOD_TABLES:
            other = [[number // 2 for number in reversed(row)] for row in one]
            for second in (one, other, [[0] * len(row) for row in one]):
                answer = settled(one, second)
                self.assertIs(answer.shows(one, second), True)
                for thing in spoilt_lists(answer.mine):
                    self.assertIs(Settled(thing, answer.theirs).shows(one, second),
                                  is_settled(one, second, thing, answer.theirs))
                for thing in spoilt_lists(answer.theirs):
                    self.assertIs(Settled(answer.mine, thing).shows(one, second),
                                  is_settled(one, second, answer.mine, thing))
        self.assertIs(Settled([], []).shows([[0]], [[0]]), False)

    def test_true_just_where_it_is_so(self):
        chance = random.Random(34)
        seen = {True: 0, False: 0}
        for one, other in many_pairs(35, 60):
            told = settled(one, other)
            mine = chance.choice((random_mixture(chance, len(one)), all_of(len(one), 0)))
            theirs = chance.choice((random_mixture(chance, len(one[0])), all_of(len(one[0]), 0)))
            for first in (mine, told.mine):
                for second in (theirs, told.theirs):
                    so = is_settled(one, other, first, second)
                    self.assertIs(Settled(first, second).shows(one, other), so, (one, other, first, second))
                    seen[so] += 1
        self.assertGreater(min(seen.values()), 300)

    def test_after_a_field_has_been_changed(self):
        answer = Settled(all_of(2, 0), all_of(2, 0))
        self.assertIs(answer.shows(self.one, self.other), True)
        answer.mine[0], answer.mine[1] = answer.mine[1], answer.mine[0]
        self.assertIs(answer.shows(self.one, self.other), False)
        answer.theirs = all_of(2, 1)
        self.assertIs(answer.shows(self.one, self.other), True)
        answer.theirs.append((0, 1))
        self.assertIs(answer.shows(self.one, self.other), False)
        answer.theirs = HALF
        self.assertIs(answer.shows(self.one, self.other), False)

    def test_of_tables_of_other_counts(self):
        self.assertIs(Settled([(1, 1)], [(1, 1)]).shows([[0]], [[0, 0]]), False)
        self.assertIs(Settled([(1, 1)], [(1, 1)]).shows([[0], [0]], [[0]]), False)
        self.assertIs(Settled([(1, 1)], [(1, 1)]).shows([[0]], [[0], [0]]), False)


class TestBeatenShows(unittest.TestCase):
    def test_by_hand(self):
        table = [[3, 0], [0, 3], [1, 1]]
        self.assertIs(Beaten([(1, 2), (1, 2), (0, 1)]).shows(table, 2), True)
        self.assertIs(Beaten([(2, 3), (1, 3), (0, 1)]).shows(table, 2), False)
        self.assertIs(Beaten([(1, 1), (0, 1), (0, 1)]).shows(table, 2), False)
        self.assertIs(Beaten([(1, 2), (1, 2), (0, 1)]).shows(table, 0), False)
        self.assertIs(Beaten([(1, 1), (0, 1)]).shows([[5, 5], [4, 4]], 1), True)
        self.assertIs(Beaten([(0, 1), (1, 1)]).shows([[4, 4], [5, 5]], 0), True)

    def test_as_much_is_not_more(self):
        self.assertIs(Beaten([(1, 1), (0, 1)]).shows([[5, 4], [4, 4]], 1), False)
        self.assertIs(Beaten([(1, 1), (0, 1)]).shows([[4, 5], [4, 4]], 1), False)
        self.assertIs(Beaten([(1, 1), (0, 1)]).shows([[4, 4], [4, 4]], 1), False)
        self.assertIs(Beaten([(1, 2), (1, 2), (0, 1)]).shows([[2, 0], [0, 2], [1, 1]], 2), False)

    def test_a_share_for_the_row_itself_is_not_as_told(self):
        self.assertIs(Beaten(HALF).shows([[5, 5], [4, 4]], 1), False)
        self.assertIs(Beaten([(10 ** 9 - 1, 10 ** 9), (1, 10 ** 9)]).shows([[5, 5], [4, 4]], 1), False)

    def test_of_one_row_none(self):
        for thing in ([(1, 1)], [(0, 1)], [], [(0, 1), (1, 1)]):
            self.assertIs(Beaten(thing).shows([[1, 2]], 0), False)

    def test_lists_that_are_no_mixtures(self):
        table = [[9, 9, 9], [5, 5, 5], [100, -100, 0], [-100, 100, 0]]
        for mixture in (all_of(4, 0), [(1, 2), (0, 1), (1, 4), (1, 4)]):
            self.assertIs(Beaten(mixture).shows(table, 1), is_beaten(table, 1, mixture))
            for thing in spoilt_lists(mixture):
                self.assertIs(Beaten(thing).shows(table, 1), is_beaten(table, 1, thing), thing)
        self.assertIs(Beaten([(2, 1), (0, 1)]).shows([[5], [4]], 1), False)
        self.assertIs(Beaten([(1, 1)]).shows([[5], [4]], 1), False)
        self.assertIs(Beaten([(1, 1), (0, 1), (0, 1)]).shows([[5], [4]], 1), False)

    def test_true_just_where_it_is_so(self):
        chance = random.Random(36)
        seen = {True: 0, False: 0}
        for table in many_tables(37, 40):
            for row in range(len(table)):
                tries = [random_mixture(chance, len(table)), all_of(len(table), chance.randrange(len(table)))]
                told = beaten(table, row)
                if isinstance(told, Beaten):
                    tries.append(told.mixture)
                for mixture in tries:
                    so = is_beaten(table, row, mixture)
                    self.assertIs(Beaten(mixture).shows(table, row), so, (table, row, mixture))
                    seen[so] += 1
        self.assertGreater(min(seen.values()), 100)

    def test_after_the_field_has_been_changed(self):
        table = [[5, 5], [4, 4]]
        answer = beaten(table, 1)
        self.assertIs(answer.shows(table, 1), True)
        answer.mixture[1] = (1, 2)
        self.assertIs(answer.shows(table, 1), False)
        answer.mixture[0] = (1, 2)
        self.assertIs(answer.shows(table, 1), False)
        answer.mixture = [(1, 1), (0, 1)]
        self.assertIs(answer.shows(table, 1), True)
        answer.mixture.insert(0, (0, 1))
        self.assertIs(answer.shows(table, 1), False)


class TestBestShows(unittest.TestCase):
    def test_by_hand(self):
        table = [[2, 0], [0, 2], [1, 1]]
        self.assertIs(Best(HALF).shows(table, 0), True)
        self.assertIs(Best(HALF).shows(table, 1), True)
        self.assertIs(Best(HALF).shows(table, 2), True)
        self.assertIs(Best([(2, 3), (1, 3)]).shows(table, 0), True)
        self.assertIs(Best([(2, 3), (1, 3)]).shows(table, 1), False)
        self.assertIs(Best([(2, 3), (1, 3)]).shows(table, 2), False)
        self.assertIs(Best([(1, 1)]).shows([[1], [1], [0]], 1), True)
        self.assertIs(Best([(1, 1)]).shows([[1], [1], [0]], 2), False)

    def test_of_one_row_every_mixture(self):
        self.assertIs(Best([(1, 3), (1, 3), (1, 3)]).shows([[1, 2, 3]], 0), True)
        self.assertIs(Best([(1, 3), (1, 3)]).shows([[1, 2, 3]], 0), False)

    def test_lists_that_are_no_mixtures(self):
        table = [[2, 0, 1], [0, 2, 1]]
        for mixture in ([(1, 2), (1, 2), (0, 1)], all_of(3, 2), [(1, 4), (1, 4), (1, 2)]):
            for row in range(2):
                self.assertIs(Best(mixture).shows(table, row), True)
                for thing in spoilt_lists(mixture):
                    self.assertIs(Best(thing).shows(table, row), is_best(table, row, thing), thing)
        self.assertIs(Best([(0, 1)] * 3).shows(table, 0), False)
        self.assertIs(Best(HALF).shows(table, 0), False)
        self.assertIs(Best([]).shows(table, 0), False)

    def test_true_just_where_it_is_so(self):
        chance = random.Random(38)
        seen = {True: 0, False: 0}
        for table in many_tables(39, 40):
            for row in range(len(table)):
                mixture = random_mixture(chance, len(table[0]))
                so = is_best(table, row, mixture)
                self.assertIs(Best(mixture).shows(table, row), so, (table, row, mixture))
                seen[so] += 1
        self.assertGreater(min(seen.values()), 100)

    def test_after_the_field_has_been_changed(self):
        table = [[1, 0], [0, 1]]
        answer = Best(all_of(2, 0))
        self.assertIs(answer.shows(table, 0), True)
        answer.mixture = all_of(2, 1)
        self.assertIs(answer.shows(table, 0), False)
        self.assertIs(answer.shows(table, 1), True)
        answer.mixture[0] = (1, 1)
        self.assertIs(answer.shows(table, 1), False)
        answer.mixture[1] = (0, 1)
        self.assertIs(answer.shows(table, 0), True)


class TestTablesSomewhatBeyondTheBounds(unittest.TestCase):
    def test_numbers(self):
        table = [[300, -100], [-200, 400]]
        self.assertIs(Solved((100, 1), [(3, 5), (2, 5)], HALF).shows(table), True)
        self.assertIs(Solved((100, 1), HALF, HALF).shows(table), False)
        self.assertIs(Settled(all_of(2, 0), all_of(2, 0)).shows(table, table), True)
        self.assertIs(Settled(all_of(2, 0), all_of(2, 1)).shows(table, table), False)
        self.assertIs(Beaten(all_of(2, 0)).shows([[102, 102], [101, 101]], 1), True)
        self.assertIs(Beaten(all_of(2, 0)).shows([[102, 101], [101, 101]], 1), False)
        self.assertIs(Best(all_of(2, 0)).shows(table, 0), True)
        self.assertIs(Best(all_of(2, 0)).shows(table, 1), False)

    def test_rows_and_columns(self):
        table = [[int(row == column) for column in range(5)] for row in range(5)]
        fifth = [(1, 5)] * 5
        self.assertIs(Solved((1, 5), fifth, fifth).shows(table), True)
        self.assertIs(Solved((1, 5), fifth, all_of(5, 4)).shows(table), False)
        self.assertIs(Settled(all_of(5, 4), all_of(5, 4)).shows(table, table), True)
        self.assertIs(Settled(all_of(5, 4), all_of(5, 3)).shows(table, table), False)
        self.assertIs(Beaten(all_of(5, 4)).shows([[0], [0], [0], [0], [1]], 0), True)
        self.assertIs(Beaten(all_of(5, 3)).shows([[0], [0], [0], [0], [1]], 0), False)
        self.assertIs(Best(fifth).shows(table, 4), True)
        self.assertIs(Best(all_of(5, 4)).shows(table, 3), False)


class TestShowsChangesNothing(unittest.TestCase):
    def test_fields_and_tables_stay_as_they_were(self):
        table, other = [[3, -1], [-2, 4]], [[1, 0], [2, 2]]
        before = copy.deepcopy((table, other))
        for things in (HALF, [(1, 1), (0, 1)], [], [(-1, 2), (3, 2)]):
            for answer, asked in ((Solved((1, 1), things, things), (table,)), (Settled(things, things), (table, other)),
                                  (Beaten(things), (table, 1)), (Best(things), (table, 0))):
                fields = copy.deepcopy(vars(answer))
                told = answer.shows(*asked)
                self.assertIs(answer.shows(*asked), told)
                self.assertEqual(vars(answer), fields)
                self.assertEqual((table, other), before)


if __name__ == "__main__":
    unittest.main()
