"""What the program refuses with: one class for each refusal, all straight under FolioError."""


class FolioError(ValueError):
    pass


class BadPicture(FolioError):
    pass


class BadCell(FolioError):
    pass


class BadSize(FolioError):
    pass


class OutOfPlace(FolioError):
    pass


class BadText(FolioError):
    pass


class BadMask(FolioError):
    pass


class BadColour(FolioError):
    pass


class BadPalette(FolioError):
    pass


class NoColour(FolioError):
    pass


class TooMany(FolioError):
    pass


class BadRuns(FolioError):
    pass


class BadPack(FolioError):
    pass


class BadRule(FolioError):
    pass


class BadEdge(FolioError):
    pass


class BadPart(FolioError):
    pass


class BadHead(FolioError):
    pass


class BadCheck(FolioError):
    # Python keeps both numbers as the error's own words, so no others are set here.
    def __init__(self, due, found):
        self.due = due
        self.found = found


class NoPart(FolioError):
    pass


class Twice(FolioError):
    pass


class BadName(FolioError):
    pass


class BadDeed(FolioError):
    pass


class NoPicture(FolioError):
    pass


class NothingDone(FolioError):
    pass
