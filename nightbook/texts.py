"""Numbers, ratios and nights as texts: read, and shown by the same text."""

from nightbook.errors import NoText
from nightbook.ratios import is_ratio

FIGURES = "0123456789"
MOST_FIGURES = 10
# Python shows no number of very many figures at once: longer ones are shown in pieces of eighteen.
PIECE = 1000000000000000000
PIECE_FIGURES = 18


def is_number_text(thing):
    if not isinstance(thing, str) or not 1 <= len(thing) <= MOST_FIGURES:
        return False
    return all([sign in FIGURES for sign in thing]) and (thing[0] != "0" or thing == "0")


def read_number(text):
    if not is_number_text(text):
        raise NoText("a number is written by one to ten figures, the first one 0 only in 0 itself")
    return int(text)


def read_numbers(text, between):
    if not isinstance(text, str):
        raise NoText("only a text can be read")
    return [read_number(part) for part in text.split(between)]


def read_ratio(text):
    numbers = read_numbers(text, "/")
    if len(numbers) == 1:
        return (numbers[0], 1)
    told = tuple(numbers)
    if not is_ratio(told) or told[1] < 2:
        raise NoText("a ratio is written in lowest terms, by its top alone where its bottom is 1")
    return told


def read_nights(text):
    numbers = read_numbers(text, "-")
    if len(numbers) != 2:
        raise NoText("nights are written by two numbers")
    return tuple(numbers)


def shown_number(number):
    pieces = []
    rest = number
    while rest >= PIECE:
        pieces.insert(0, str(rest % PIECE).zfill(PIECE_FIGURES))
        rest = rest // PIECE
    return str(rest) + "".join(pieces)


def shown_ratio(ratio):
    top = shown_number(ratio[0])
    if ratio[1] == 1:
        return top
    bottom = shown_number(ratio[1])
    return f"{top}/{bottom}"


def shown_nights(nights):
    first = shown_number(nights[0])
    behind = shown_number(nights[1])
    return f"{first}-{behind}"
