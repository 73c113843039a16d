"""All errors of the package."""


class GuestError(ValueError):
    """The base of all errors of the package."""


class BadTies(GuestError):
    """The backs that were passed make no Ties."""
    def __init__(self, what):
        self.what = what


class NoTie(GuestError):
    """A thing that had to be a tie is none."""
    def __init__(self, tie):
        self.tie = tie


class BadCompany(GuestError):
    """Labels and rows that make no Company."""
    def __init__(self, index, what):
        self.index = index
        self.what = what


class NoGuest(GuestError):
    """No guest of a company has this label."""
    def __init__(self, label):
        self.label = label


class Alike(GuestError):
    """Two labels that must be unlike are one."""
    def __init__(self, label):
        self.label = label


class BadRenaming(GuestError):
    """Pairs that give the guests no new labels."""
    def __init__(self, what):
        self.what = what


class TooMany(GuestError):
    """A number or a count beyond what a call takes."""
    def __init__(self, count):
        self.count = count


class BadText(GuestError):
    """A text that tells no object; rows count from 1."""
    def __init__(self, row, what):
        self.row = row
        self.what = what


class NoThree(GuestError):
    """A thing that had to be a three is none."""
    def __init__(self, three):
        self.three = three


class BadBook(GuestError):
    """Arguments that make no Book."""
    def __init__(self, index, what):
        self.index = index
        self.what = what


class OtherTies(GuestError):
    """Things passed to one call have unlike backs of ties."""


class TooWide(GuestError):
    """More than two ties where a size can not be told."""


class NotLet(GuestError):
    """The book does not let what was passed."""
    def __init__(self, what):
        self.what = what


class NoHall(GuestError):
    """The book has a clash and so no hall."""
    def __init__(self, clash):
        self.clash = clash


class BadCouple(GuestError):
    """An entry that is no couple of two ties."""
    def __init__(self, index):
        self.index = index


class BadClash(GuestError):
    """A clash that is not right for the book."""
    def __init__(self, what):
        self.what = what


class CannotMerge(GuestError):
    """Two companies that can not be put together."""
    def __init__(self, what, labels):
        self.what = what
        self.labels = labels


class BadCrossing(GuestError):
    """Ties that make no crossing of two companies."""
    def __init__(self, index, what):
        self.index = index
        self.what = what


class NoWay(GuestError):
    """There is no way of merging with this index."""
    def __init__(self, number):
        self.number = number


class NotStrict(GuestError):
    """The book does not join strictly."""


class CannotHost(GuestError):
    """Companies that share no one lot of guests."""
    def __init__(self, index, what, labels):
        self.index = index
        self.what = what
        self.labels = labels


class BadRow(GuestError):
    """Guests and a row that make no asking."""
    def __init__(self, what):
        self.what = what


class Full(GuestError):
    """Nobody but these guests can meet an asking."""
    def __init__(self, lot):
        self.lot = lot


class HallBound(GuestError):
    """A hall that has all the guests that it may have."""


class OtherBook(GuestError):
    """Two halls of unlike books."""


class BadPairs(GuestError):
    """Pairs that lead no guests to guests."""
    def __init__(self, what):
        self.what = what


class BadGrowth(GuestError):
    """Numbers by which no hall can grow."""
    def __init__(self, what):
        self.what = what


class BadQuestion(GuestError):
    """Arguments that make no question."""
    def __init__(self, what):
        self.what = what


class BadNaming(GuestError):
    """Pairs that name no guests."""
    def __init__(self, index, what):
        self.index = index
        self.what = what


class Unnamed(GuestError):
    """A name that is free and names nobody."""
    def __init__(self, name):
        self.name = name


class OtherTie(GuestError):
    """A question tells of a tie that is not there."""
    def __init__(self, tie):
        self.tie = tie


class NoPrefix(GuestError):
    """A question that has no prefix form."""
    def __init__(self, what):
        self.what = what


class BadDepth(GuestError):
    """A depth that is out of its range."""
    def __init__(self, depth):
        self.depth = depth


class BadName(GuestError):
    """A thing that had to be a name is none."""
    def __init__(self, name):
        self.name = name


class BadNames(GuestError):
    """Names that make no situations."""
    def __init__(self, index, what):
        self.index = index
        self.what = what


class Sentence(GuestError):
    """A question without a free name."""


class NoPaper(GuestError):
    """A question that no paper can answer."""


class BadFullness(GuestError):
    """A number that measures no fullness."""
    def __init__(self, what):
        self.what = what


class BadWheel(GuestError):
    """Steps that make no wheel."""
    def __init__(self, index, what):
        self.index = index
        self.what = what


class BadSpread(GuestError):
    """A number by which a wheel can not be spread."""
    def __init__(self, k):
        self.k = k


class BadSketch(GuestError):
    """Labels and rows that make no sketch."""
    def __init__(self, index, what):
        self.index = index
        self.what = what


class NoFilling(GuestError):
    """A sketch that can not be filled."""


class NoOrder(GuestError):
    """A web with a ring can not be peeled."""
    def __init__(self, labels):
        self.labels = labels


class KnownBarred(GuestError):
    """Known ties make a barred three."""
    def __init__(self, labels):
        self.labels = labels


class BadRing(GuestError):
    """A number of guests that makes no ring."""
    def __init__(self, count):
        self.count = count


class BadFact(GuestError):
    """A fact that can not be told here."""
    def __init__(self, what):
        self.what = what


class NotTrue(GuestError):
    """Facts that can not hold together."""
    def __init__(self, rows):
        self.rows = rows


class NoRows(GuestError):
    """A book that has no row tie."""
    def __init__(self, which):
        self.which = which


class UnlikeGuests(GuestError):
    """Two companies that have not the same guests."""


class BadLots(GuestError):
    """Companies that make no lots."""
    def __init__(self, index, what):
        self.index = index
        self.what = what


class BadSeeing(GuestError):
    """Ties that can not be seen in this way."""
    def __init__(self, index, what):
        self.index = index
        self.what = what


class NotSuch(GuestError):
    """A question that has not the shape asked for."""
    def __init__(self, what):
        self.what = what


class BadChange(GuestError):
    """A change that can not be made."""
    def __init__(self, index, what):
        self.index = index
        self.what = what


class BadKind(GuestError):
    """A kind of verdict that there is not."""
    def __init__(self, kind):
        self.kind = kind


class NoNumber(GuestError):
    """No standing change has this number."""
    def __init__(self, number):
        self.number = number


class Rests(GuestError):
    """Another change rests on the one taken back."""
    def __init__(self, number):
        self.number = number
