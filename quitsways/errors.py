"""The errors of the package. Each is made with just the fields that it keeps."""


class QuitsError(ValueError):
    """What all errors of the package are."""


class BadEvening(QuitsError):
    """An evening cannot be made: the part that is not as told."""

    def __init__(self, part):
        self.part = part


class NoAmount(QuitsError):
    """What should be an amount is none."""

    def __init__(self):
        pass


class NotEven(QuitsError):
    """What should be an even group is none."""

    def __init__(self):
        pass


class NoRow(QuitsError):
    """What should be a row is none."""

    def __init__(self):
        pass


class NoPair(QuitsError):
    """A function gave no pair that can pay: the place of the payment."""

    def __init__(self, place):
        self.place = place


class NoWay(QuitsError):
    """What should be a way is none."""

    def __init__(self):
        pass


class NoDrawing(QuitsError):
    """What should be a drawing is none."""

    def __init__(self):
        pass


class TooMany(QuitsError):
    """There is more than is let: the most that is let."""

    def __init__(self, most):
        self.most = most


class NoNumber(QuitsError):
    """What should be a number is none."""

    def __init__(self):
        pass


class NoSettlement(QuitsError):
    """What should be a settlement is none."""

    def __init__(self):
        pass


class NoPrices(QuitsError):
    """What should be prices is none."""

    def __init__(self):
        pass


class NoFraction(QuitsError):
    """What should be a fraction is none."""

    def __init__(self):
        pass


class NoPerson(QuitsError):
    """What should be the number of a person is none."""

    def __init__(self):
        pass


class NoWeb(QuitsError):
    """What should be a web is none."""

    def __init__(self):
        pass


class NotSettled(QuitsError):
    """An evening cannot be settled along a web."""

    def __init__(self):
        pass


class NoOrder(QuitsError):
    """What should be an order is none."""

    def __init__(self):
        pass


class Quits(QuitsError):
    """Somebody who should pay, or be paid, is quits."""

    def __init__(self):
        pass


class NothingDone(QuitsError):
    """There is nothing that can be taken back."""

    def __init__(self):
        pass


class NoNames(QuitsError):
    """What should be names is none."""

    def __init__(self):
        pass


class NoName(QuitsError):
    """A name that stands for nothing: the name."""

    def __init__(self, name):
        self.name = name


class Alike(QuitsError):
    """What should be two is one."""

    def __init__(self):
        pass


class NoLosers(QuitsError):
    """What should be losers is none."""

    def __init__(self):
        pass


class NoRing(QuitsError):
    """What should be a ring of debts is none."""

    def __init__(self):
        pass


class NoWish(QuitsError):
    """What should be a wish is none."""

    def __init__(self):
        pass


class NoEvenings(QuitsError):
    """What should be evenings is none."""

    def __init__(self):
        pass


class NoRule(QuitsError):
    """What should be a rule is none."""

    def __init__(self):
        pass


class BadText(QuitsError):
    """A text is not of its form: the first line that is not, 0 for no text."""

    def __init__(self, line):
        self.line = line


class NoLine(QuitsError):
    """What should be a line for the desk is none."""

    def __init__(self):
        pass
