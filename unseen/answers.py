"""Answers that can show of a table whether they are so.

An asker may change the fields, or make an answer by hand, so nothing that was once reckoned is kept beside them.
"""

from unseen.corners import all_get
from unseen.fractions import below, is_fraction
from unseen.tables import best_rows, columns_of, is_mixture, of_same_counts


def are_mixtures(table, mine, theirs):
    return is_mixture(mine, len(table)) and is_mixture(theirs, len(table[0]))


def shared(mixture):
    return [card for card, share in enumerate(mixture) if share != (0, 1)]


def all_among(cards, others):
    return all([card in others for card in cards])


def all_best(table, mine, theirs):
    return all_among(shared(mine), best_rows(table, theirs)[0])


class Answer:
    pass


class Solved(Answer):
    def __init__(self, value, mine, theirs):
        self.value = value
        self.mine = list(mine)
        self.theirs = list(theirs)

    def shows(self, table):
        if not is_fraction(self.value) or not are_mixtures(table, self.mine, self.theirs):
            return False
        if any([below(gain, self.value) for gain in all_get(columns_of(table), self.mine)]):
            return False
        return not any([below(self.value, gain) for gain in all_get(table, self.theirs)])


class Settled(Answer):
    def __init__(self, mine, theirs):
        self.mine = list(mine)
        self.theirs = list(theirs)

    def shows(self, one, other):
        if not of_same_counts(one, other) or not are_mixtures(one, self.mine, self.theirs):
            return False
        if not all_best(one, self.mine, self.theirs):
            return False
        return all_best(columns_of(other), self.theirs, self.mine)


class Beaten(Answer):
    def __init__(self, mixture):
        self.mixture = list(mixture)

    def shows(self, table, row):
        if not is_mixture(self.mixture, len(table)) or self.mixture[row] != (0, 1):
            return False
        gains = all_get(columns_of(table), self.mixture)
        return all([below((number, 1), gain) for number, gain in zip(table[row], gains)])


class Best(Answer):
    def __init__(self, mixture):
        self.mixture = list(mixture)

    def shows(self, table, row):
        return is_mixture(self.mixture, len(table[0])) and row in best_rows(table, self.mixture)[0]
