"""The errors of the package; each keeps its argument in the attribute of that name."""


class OwnError(ValueError):
    """The base class of most errors here."""


class BadOctets(OwnError):
    """A value is no octets: -1, or the index of the first item that is none."""

    def __init__(self, at):
        super().__init__("no octets")
        self.at = at


class BadBond(OwnError):
    """A value is no bond: where it is none."""

    def __init__(self, at):
        super().__init__("no bond")
        self.at = at


class BadMachine(OwnError):
    """A value is no machine: -1, or the first part that is none."""

    def __init__(self, at):
        super().__init__("no machine")
        self.at = at


class BadWeight(OwnError):
    """A value is no weight: -1, or the index of the first item that is none."""

    def __init__(self, at):
        super().__init__("no weight")
        self.at = at


class BadTree(OwnError):
    """A value is no tree: where it is none."""

    def __init__(self, at):
        super().__init__("no tree")
        self.at = at


class BadText(OwnError):
    """A text is no sheet: where it is none."""

    def __init__(self, at):
        super().__init__("no sheet")
        self.at = at


class Refused(OwnError):
    """A value is none of those that are taken here."""

    def __init__(self, value):
        super().__init__("refused")
        self.value = value


class Broken(OwnError):
    """Octets break off, or cannot be gone on with: at which place."""

    def __init__(self, at):
        super().__init__("broken")
        self.at = at


class TooGreat(OwnError):
    """Something would be greater than the most that is taken."""

    def __init__(self, most):
        super().__init__("too great")
        self.most = most


class NoFilling(KeyError):
    """A value is no filling of this form."""

    def __init__(self, value):
        super().__init__("no filling")
        self.value = value


class NoSituation(KeyError):
    """A value is no situation of this machine."""

    def __init__(self, value):
        super().__init__("no situation")
        self.value = value
