"""The errors of the package: each keeps what it was made from."""


class SwornError(ValueError):
    """What all errors of the package have in common; it is never raised itself."""


class Wrong(SwornError):
    """The argument that is counted place is not as described."""

    def __init__(self, place):
        self.place = place


class NoPlace(SwornError):
    """The process has no such page, or the place is gone."""

    def __init__(self, process, page):
        self.process = process
        self.page = page


class NoProcess(SwornError):
    """There is no such process."""

    def __init__(self, process):
        self.process = process


class NoGroup(SwornError):
    """There is no such group."""

    def __init__(self, group):
        self.group = group


class NoSnapshot(SwornError):
    """There is no such snapshot."""

    def __init__(self, snapshot):
        self.snapshot = snapshot


class NoTicket(SwornError):
    """The forest of the process has no such ticket, or one with a lesser number."""

    def __init__(self, process, lot):
        self.process = process
        self.lot = lot


class NoText(SwornError):
    """The line with this index shows nothing that is looked for."""

    def __init__(self, line):
        self.line = line


class NoCommand(SwornError):
    """The line, a string, is none that can be done."""

    def __init__(self, line):
        self.line = line


class Nothing(SwornError):
    """There is nothing to take back, or to do once more."""

    def __init__(self):
        pass


class TooMany(SwornError):
    """There would be more than most."""

    def __init__(self, most):
        self.most = most
