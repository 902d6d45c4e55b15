"""The refusals of the program, one class for each."""


class HeapError(ValueError):
    pass


class BadHeap(HeapError):
    pass


class BadNumber(HeapError):
    pass


class TooFew(HeapError):
    pass


class BadText(HeapError):
    pass
