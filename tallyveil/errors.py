"""The refusals of the program, one class for each."""


class VeilError(ValueError):
    pass


class NoHouse(VeilError):
    pass


class NoTable(VeilError):
    pass


class NoText(VeilError):
    pass


class NoPlace(VeilError):
    pass


class TooFar(VeilError):
    pass


class NoSecret(VeilError):
    pass


class Secret(VeilError):
    def __init__(self, place):
        VeilError.__init__(self, f"{place!r} is a secret")
        self.place = place


class Pinned(VeilError):
    def __init__(self, place, least, greatest, low_sums, high_sums):
        VeilError.__init__(self, f"{place!r} would be known to lie from {least!r} to {greatest!r}")
        self.place = place
        self.least = least
        self.greatest = greatest
        self.low_sums = own_copy(low_sums)
        self.high_sums = own_copy(high_sums)


class NoBase(VeilError):
    pass


class NoRow(VeilError):
    pass


def own_copy(sums):
    # The maker may go on changing its list; what the error tells must stay.
    return list(sums) if isinstance(sums, list) else sums
