"""The errors of the package; each holds the value for which it was raised."""


class TickError(ValueError):
    """The error from which all others of the package are derived."""


class InvalidNumber(TickError):
    """An item has to be a number of a certain kind and is none."""

    def __init__(self, value=None):
        self.value = value


class InvalidList(TickError):
    """An argument has to be a list, or a list of a certain form, and is none."""

    def __init__(self, value=None):
        self.value = value


class InvalidItem(TickError):
    """An item or an argument does not have the form that it needs."""

    def __init__(self, value=None):
        self.value = value


class InvalidShop(TickError):
    """An argument has to be a shop and is none."""

    def __init__(self, value=None):
        self.value = value


class InvalidThing(TickError):
    """An argument has to be a thing of a shop and is none."""

    def __init__(self, value=None):
        self.value = value


class InvalidTicks(TickError):
    """An argument has to be ticks of a shop and is none."""

    def __init__(self, value=None):
        self.value = value


class InvalidStore(TickError):
    """An argument has to be a store of a shop and is none."""

    def __init__(self, value=None):
        self.value = value


class InvalidWord(TickError):
    """An argument is none of the words that it may be."""

    def __init__(self, value=None):
        self.value = value


class InvalidRule(TickError):
    """An argument has to be a rule and is none."""

    def __init__(self, value=None):
        self.value = value


class InvalidText(TickError):
    """An argument has to be the text of a shop and is none."""

    def __init__(self, value=None):
        self.value = value


class Missing(TickError):
    """What is to be taken is not there."""

    def __init__(self, value=None):
        self.value = value


class InvalidName(TickError):
    """An argument has to be a name and is none."""

    def __init__(self, name=None):
        self.name = name


class TakenName(TickError):
    """Something is kept by that name already."""

    def __init__(self, name=None):
        self.name = name


class UnknownName(TickError):
    """Nothing has that name."""

    def __init__(self, name=None):
        self.name = name


class NothingToUndo(TickError):
    """There is no deed or step left that could be undone."""
