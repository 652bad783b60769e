"""Numbers and rights written as texts."""

from leafframe.errors import NoText

FIGURES = "0123456789abcdef"
MOST_FIGURES = 20
RIGHTS = ("-", "r", "w", "rw")


def shown_number(number):
    text = FIGURES[number & 15]
    rest = number >> 4
    while rest > 0:
        text = FIGURES[rest & 15] + text
        rest = rest >> 4
    return text


def read_number(text):
    if not 1 <= len(text) <= MOST_FIGURES:
        raise NoText("a number has from one to twenty figures")
    if text[0] == "0" and text != "0":
        raise NoText("no number but 0 has a 0 ahead")
    number = 0
    for sign in text:
        figure = FIGURES.find(sign)
        if figure < 0:
            raise NoText("a number has figures from 0 to 9 and from a to f")
        number = number * 16 + figure
    return number


def shown_rights(rights):
    return RIGHTS[rights]


def rights_of(text):
    if text not in RIGHTS:
        raise NoText("rights are written -, r, w or rw")
    return RIGHTS.index(text)
