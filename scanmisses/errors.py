"""The errors of the package."""


class ScanError(ValueError):
    """The base class of all errors of the package."""


class InvalidText(ScanError):
    """The text of a program is wrong; index is that of its first wrong word, None for what is no string."""

    def __init__(self, index):
        super().__init__(f"the text is wrong, index: {index}")
        self.index = index


class TooLarge(ScanError):
    """Something has more items than the limit."""

    def __init__(self, limit):
        super().__init__(f"there are too many, limit: {limit}")
        self.limit = limit


class TooManyMisses(ScanError):
    """A buffer would have more misses than it may have; total is the number that it would have."""

    def __init__(self, total):
        # Not written in the message: Python refuses to write very long numbers.
        super().__init__("there would be too many misses")
        self.total = total


class InvalidProgram(ScanError):
    """A value is no program."""


class InvalidScan(ScanError):
    """A value is no scan."""


class InvalidList(ScanError):
    """A value is no list of scans in which no address occurs twice."""


class InvalidAddress(ScanError):
    """A value is no address."""


class InvalidSize(ScanError):
    """A value is no size of a cache."""


class InvalidNumber(ScanError):
    """A value is no integer, or not within its bounds."""


class InvalidIndex(ScanError):
    """A value is no index of a thing that exists."""


class InvalidProfile(ScanError):
    """A value is no profile, or does not describe one."""


class InvalidSummary(ScanError):
    """A value is no summary."""


class InvalidSizes(ScanError):
    """A value is no list of sizes."""


class InvalidScans(ScanError):
    """A value is no list of scans that are the body of a loop."""


class InvalidPrograms(ScanError):
    """A value is no list of programs."""


class InvalidPoints(ScanError):
    """A value is no dict from distances to how often they occur."""


class InvalidInterval(ScanError):
    """Two values are not the ends of an interval of addresses."""


class InvalidOperation(ScanError):
    """A value is no operation of a buffer."""


class Nothing(ScanError):
    """There is nothing to take back."""


class InvalidCommand(ScanError):
    """A value is no command of the console."""
