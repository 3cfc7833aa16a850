"""The refusals: one class each, all under BoxError."""


class BoxError(ValueError):
    pass


class NoField(BoxError):
    pass


class NoBox(BoxError):
    pass


class NoNumber(BoxError):
    pass


class NoTurn(BoxError):
    pass


class NoText(BoxError):
    def __init__(self, line=0, words="no such text"):
        BoxError.__init__(self, words)
        self.line = line


class NoRow(BoxError):
    pass


class NoBack(BoxError):
    pass
