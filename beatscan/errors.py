"""The errors of the program, all under ScanError."""


class ScanError(Exception):
    """What each error of the program is."""


class BadThing(ScanError):
    """A thing that cannot be taken."""

    def __init__(self, thing):
        super().__init__(f"this cannot be taken: {thing!r}")
        self.thing = thing


class BadText(ScanError):
    """A text that is wrong at a line and a column, both counted from 1."""

    def __init__(self, line, column):
        super().__init__(f"wrong at line {line}, column {column}")
        self.line = line
        self.column = column


class BadBook(ScanError):
    """A book with a rule, told by its name, that may not be in it."""

    def __init__(self, name):
        super().__init__(f"the book may not have the rule {name}")
        self.name = name


class BadPaper(ScanError):
    """A paper that is wrong at a place."""

    def __init__(self, at):
        super().__init__(f"the paper is wrong at {at}")
        self.at = at


class BadNet(ScanError):
    """A net that is wrong at a place, and why."""

    def __init__(self, at, why):
        super().__init__(f"the net is wrong at {at}: {why}")
        self.at = at
        self.why = why
