"""The refusals of the book: each class stands straight under InnError and keeps what it is made with.

No words are made of the values: they may be whatever was handed in, also what can't be shown.
"""


class InnError(ValueError):
    pass


class NoNumber(InnError):
    def __init__(self, text):
        self.text = text


class NoText(InnError):
    def __init__(self, text):
        self.text = text


class NoRow(InnError):
    def __init__(self, text):
        self.text = text


class NoBook(InnError):
    def __init__(self, text):
        self.text = text


class NoStay(InnError):
    def __init__(self, at):
        self.at = at


class NoWish(InnError):
    def __init__(self, at):
        self.at = at


class NoRoom(InnError):
    def __init__(self, room):
        self.room = room


class Taken(InnError):
    def __init__(self, room):
        self.room = room


class TooFull(InnError):
    def __init__(self, night):
        self.night = night


class Full(InnError):
    def __init__(self, kind):
        self.kind = kind


class NoExchange(InnError):
    def __init__(self, night):
        self.night = night


class NoKind(InnError):
    def __init__(self, kind):
        self.kind = kind


class TooMany(InnError):
    def __init__(self, number):
        self.number = number


class NoName(InnError):
    def __init__(self, name):
        self.name = name


class NoStretch(InnError):
    def __init__(self, name):
        self.name = name


class NoChance(InnError):
    def __init__(self, name):
        self.name = name


class Stands(InnError):
    def __init__(self, name):
        self.name = name


class NoGuest(InnError):
    def __init__(self, name):
        self.name = name


class InHouse(InnError):
    def __init__(self, name):
        self.name = name


class NotTaken(InnError):
    def __init__(self, name):
        self.name = name


class NotTonight(InnError):
    def __init__(self, name):
        self.name = name
