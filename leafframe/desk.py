"""The desk: a memory that is told its deeds, and answers, in rows of text."""

from leafframe.accesses import read_word, write_word
from leafframe.errors import (
    Barred, Full, NoAddress, NoName, NoRow, NoStretch, NoTask, NoText, NoWord, Taken, Unlike, Unmapped,
)
from leafframe.looker import page_words
from leafframe.maps import change_rights, map_pages, share_pages, unmap_pages
from leafframe.memories import Memory, begin_task, live_tasks, room_left, space_of
from leafframe.shapes import Shape
from leafframe.tasks import end_task, fork_task
from leafframe.texts import read_number, rights_of, shown_number, shown_rights

DONE = "ok"
# The percent sign's number: no row has that sign.
PERCENT = 37


def shown_numbers(numbers):
    return " ".join([shown_number(number) for number in numbers])


def begin_row(memory, told):
    return shown_number(begin_task(memory))


def fork_row(memory, told):
    return shown_number(fork_task(memory, told[0]))


def end_row(memory, told):
    end_task(memory, told[0])
    return DONE


def map_row(memory, told):
    map_pages(memory, told[0], told[1], told[2], told[3])
    return DONE


def unmap_row(memory, told):
    unmap_pages(memory, told[0], told[1], told[2])
    return DONE


def rights_row(memory, told):
    change_rights(memory, told[0], told[1], told[2], told[3])
    return DONE


def share_row(memory, told):
    share_pages(memory, told[0], told[1], told[2], told[3], told[4])
    return DONE


def read_row(memory, told):
    return shown_number(read_word(memory, told[0], told[1]))


def write_row(memory, told):
    write_word(memory, told[0], told[1], told[2])
    return DONE


def page_row(memory, told):
    try:
        words = page_words(memory, told[0], told[1])
    except Unmapped:
        return "none"
    leaf = space_of(memory, told[0]).leaf(told[1])
    return shown_rights(leaf.rights) + " " + shown_numbers(words)


def room_row(memory, told):
    return shown_number(room_left(memory))


def tasks_row(memory, told):
    return shown_numbers(live_tasks(memory))


# For each row's first word: what answers it, and what its other words are.
ROWS = {
    "begin": (begin_row, ()),
    "fork": (fork_row, ("number",)),
    "end": (end_row, ("number",)),
    "map": (map_row, ("number", "number", "number", "rights")),
    "unmap": (unmap_row, ("number", "number", "number")),
    "rights": (rights_row, ("number", "number", "number", "rights")),
    "share": (share_row, ("number", "word", "number", "number", "rights")),
    "read": (read_row, ("number", "number")),
    "write": (write_row, ("number", "number", "number")),
    "page": (page_row, ("number", "number")),
    "room": (room_row, ()),
    "tasks": (tasks_row, ()),
}


def words_of(row):
    for sign in row:
        if not " " <= sign <= "~" or ord(sign) == PERCENT:
            raise NoRow("a sign that no row has")
    return row.split(" ")


def told_as(kind, word):
    try:
        if kind == "number":
            return read_number(word)
        if kind == "rights":
            return rights_of(word)
    except NoText:
        raise NoRow("a word that is no number or no rights") from None
    return word


def told_of(kinds, words):
    if len(kinds) != len(words):
        raise NoRow("too few or too many words")
    return [told_as(kind, word) for kind, word in zip(kinds, words)]


def answer_of(deed, memory, told):
    try:
        return deed(memory, told)
    except NoTask:
        return "no task"
    except NoAddress:
        return "no address"
    except NoStretch:
        return "no stretch"
    except NoWord:
        return "no word"
    except NoName:
        return "no name"
    except Unlike:
        return "unlike"
    except Full:
        return "full"
    except Taken as taken:
        return "taken " + shown_number(taken.page)
    except Unmapped as fault:
        return "unmapped " + shown_number(fault.address)
    except Barred as fault:
        return "barred " + shown_number(fault.address)


class Desk:
    def __init__(self, memory):
        self.memory = memory

    def say(self, row):
        words = words_of(row)
        if words[0] not in ROWS:
            raise NoRow("a row that is none of the desk's")
        kind = ROWS[words[0]]
        return answer_of(kind[0], self.memory, told_of(kind[1], words[1:]))


def opened(row):
    words = words_of(row)
    if len(words) != 6 or words[0] != "memory":
        raise NoRow("a memory is opened by widths, low width, frames, slots and places")
    widths = [told_as("number", word) for word in words[1].split(",")]
    numbers = [told_as("number", word) for word in words[2:]]
    return Desk(Memory(Shape(widths, numbers[0]), numbers[1], numbers[2], numbers[3]))


def answer_row(desk, row):
    try:
        return desk.say(row)
    except NoRow:
        return "no row"


def run_text(text):
    rows = text.split("\n")
    desk = opened(rows[0])
    return "\n".join([answer_row(desk, row) for row in rows[1:]])
