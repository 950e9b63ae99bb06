"""A desk: it is told rows of words, one at a time, and answers each by a text."""

from nightbook.book import Book
from nightbook.errors import NoBook, NoRow, NoText
from nightbook.house import is_name
from nightbook.looks import best_of_line, may_still, together, wanted
from nightbook.texts import read_nights, read_number, read_ratio, shown_nights, shown_ratio

MOST_COUNTS = 4
MOST_PAIRS = 16
MOST_NAMES = 6
# What stands behind the first word of a row; rows of several forms are told apart in form_of.
FORMS = {
    "withdraw": ("name",),
    "shorten": ("name", "nights"),
    "absent": ("name",),
    "go": ("name",),
    "come": ("name",),
    "close": (),
    "tonight": (),
    "names": (),
    "state": ("name",),
    "room": ("name",),
    "house": (),
    "line": (),
    "story": (),
    "may": ("name",),
    "wanted": ("number",),
}


def form_of(word, many):
    # many words stand behind the first one; None where there is no such row.
    if word == "inn" and 1 <= many - 2 <= MOST_COUNTS:
        return ["number"] * (many - 2) + ["risk", "ratio"]
    if word == "wish" and 3 <= many <= 4:
        return ["name", "number", "nights", "ratio"][:many]
    if word == "best" and many % 2 == 1 and many // 2 <= MOST_PAIRS:
        return ["number"] + ["name", "number"] * (many // 2)
    if word == "together" and 1 <= many <= MOST_NAMES:
        return ["name"] * many
    if word in FORMS and len(FORMS[word]) == many:
        return list(FORMS[word])
    return None


def read_plain(sort, word):
    if sort == "number":
        return read_number(word)
    if sort == "ratio":
        return read_ratio(word)
    return read_nights(word)


def read_word(sort, word):
    if (sort == "name" and is_name(word)) or (sort == "risk" and word == "risk"):
        return word
    if sort == "name" or sort == "risk":
        raise NoRow("a word that is no name, or stands where risk belongs")
    try:
        return read_plain(sort, word)
    except NoText:
        raise NoRow("a word that is no number, no ratio or no nights") from None


def words_of(row):
    if not isinstance(row, str):
        raise NoRow("a row is a text")
    return row.split(" ")


def things_of(words):
    form = form_of(words[0], len(words) - 1)
    if form is None:
        raise NoRow("no such row, or too few or too many words")
    return [read_word(sort, word) for sort, word in zip(form, words[1:])]


def with_blanks(things):
    return " ".join([str(thing) for thing in things])


def with_commas(rows):
    return ", ".join([with_blanks(row) for row in rows])


def say_wish(book, things):
    nights = things[2]
    chance = things[3] if len(things) == 4 else None
    return "taken" if book.wish(things[0], things[1], nights[0], nights[1], chance) else "waits"


def say_withdraw(book, things):
    return with_blanks(["ok"] + book.withdraw(things[0]))


def say_shorten(book, things):
    return with_blanks(["ok"] + book.shorten(things[0], things[1][0], things[1][1]))


def say_absent(book, things):
    return with_blanks(["ok"] + book.absent(things[0]))


def say_go(book, things):
    return with_blanks(["ok"] + book.go(things[0]))


def say_come(book, things):
    told = book.come(things[0])
    if told[0] == "away":
        return with_blanks(["away", told[1]] + told[2])
    return with_commas([["in", told[1]]] + [[room, "to", other] for room, other in told[2]])


def say_close(book, things):
    words = ["absent", "left", "late", "taken"]
    return with_commas([[word] + names for word, names in zip(words, book.close())])


def say_tonight(book, things):
    return str(book.tonight())


def say_names(book, things):
    return with_blanks(book.names())


def say_state(book, things):
    state = book.state(things[0])
    return with_blanks([state[0], state[1], shown_nights((state[2], state[3])), shown_ratio(state[4])])


def say_room(book, things):
    return str(book.room_of(things[0]))


def say_house(book, things):
    return with_commas(book.house())


def say_line(book, things):
    return with_commas([[row[0], row[1], row[2], shown_ratio(row[3])] for row in book.line()])


def say_story(book, things):
    return with_commas(book.story())


def say_may(book, things):
    return with_blanks(may_still(book, things[0]))


def say_wanted(book, things):
    told = wanted(book, things[0])
    return with_blanks([told[0], "at", told[1]])


def say_best(book, things):
    told = best_of_line(book, things[0], list(zip(things[1::2], things[2::2])))
    return with_commas([[told[0], "for"] + told[1]] + [[night, "at", price] for night, price in told[2]])


def shown_row(row):
    return ".".join([str(night) for night in row])


def say_together(book, things):
    told = together(book, things)
    words = [told[0]]
    if told[0] == "laid":
        for name, room in told[1]:
            words = words + [name, room]
    else:
        for rows in told[1]:
            words = words + ["/"] + [shown_row(row) for row in rows]
    return with_blanks(words)


ANSWERS = {
    "wish": say_wish,
    "withdraw": say_withdraw,
    "shorten": say_shorten,
    "absent": say_absent,
    "go": say_go,
    "come": say_come,
    "close": say_close,
    "tonight": say_tonight,
    "names": say_names,
    "state": say_state,
    "room": say_room,
    "house": say_house,
    "line": say_line,
    "story": say_story,
    "may": say_may,
    "wanted": say_wanted,
    "best": say_best,
    "together": say_together,
}


class Desk:
    def __init__(self):
        self.book = None

    def say(self, row):
        words = words_of(row)
        things = things_of(words)
        if words[0] == "inn":
            # A refused inn never gets here: the book ahead stays.
            self.book = Book(things[:-2], things[-1])
            return "ok"
        if self.book is None:
            raise NoBook("no inn was told yet")
        return ANSWERS[words[0]](self.book, things)
