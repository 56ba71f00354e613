"""The refusals, one class for each, so that an asker can tell them apart by name."""


class CardError(ValueError):
    pass


class BadTable(CardError):
    pass


class BadMixture(CardError):
    pass


class NoCard(CardError):
    pass


class Unlike(CardError):
    pass


class BadText(CardError):
    pass
