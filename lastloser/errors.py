"""The refusals: one class for each, all right under HeapError.

Each hands its fields on to its base as they are, so that a refusal can be copied.
"""


class HeapError(ValueError):
    pass


class NoText(HeapError):
    def __init__(self, row):
        HeapError.__init__(self, row)
        self.row = row


class Twice(HeapError):
    def __init__(self, name):
        HeapError.__init__(self, name)
        self.name = name


class NoName(HeapError):
    def __init__(self, name):
        HeapError.__init__(self, name)
        self.name = name


class TooMany(HeapError):
    def __init__(self):
        HeapError.__init__(self)


class NoGame(HeapError):
    def __init__(self, word, heap):
        HeapError.__init__(self, word, heap)
        self.word = word
        self.heap = heap


class NoTable(HeapError):
    def __init__(self, word, at):
        HeapError.__init__(self, word, at)
        self.word = word
        self.at = at


class Wrong(HeapError):
    def __init__(self, counts):
        HeapError.__init__(self, counts)
        self.counts = counts


class NoPaper(HeapError):
    def __init__(self, at):
        HeapError.__init__(self, at)
        self.at = at


class NoPick(HeapError):
    def __init__(self, heap):
        HeapError.__init__(self, heap)
        self.heap = heap


class NoRow(HeapError):
    def __init__(self):
        HeapError.__init__(self)
