"""What the tests of all modules use."""

import unittest

from leafframe.accesses import read_word, write_word
from leafframe.errors import Fault, LeafError, Taken
from leafframe.leaves import Fresh, Held, Named, Out
from leafframe.maps import change_rights, map_pages, share_pages, unmap_pages
from leafframe.memories import begin_task, live_tasks, room_left, walks_of
from leafframe.tasks import end_task, fork_task

# Far beyond every bound; the last ones have more digits than Python writes out.
FAR_ABOVE = (1 << 64, 10 ** 30, 1 << 20000)
FAR_BELOW = tuple(-number for number in FAR_ABOVE)

TOP_WORD = 2 ** 64 - 1
# Things of all sorts that are no word.
NO_WORDS = (
    -1, -2, 2 ** 64, 2 ** 64 + 1, 2 ** 65, True, False, None, "", "1", "0x1f", 1.0, 0.5, float("nan"), 1j, b"1",
    (), (1,), [], [1], {}, {1: 1}, {1}, object(), int, len,
) + FAR_ABOVE + FAR_BELOW
NO_RIGHTS = (-1, 4, 5, -4) + FAR_ABOVE + FAR_BELOW
NO_NAMES = (
    "", "abcdefghi", "A", "aB", "a1", "1", " ", "a b", "ab ", " ab", "-", "a-b", "a_b", "`", "{", "a\n", "\n", "\x00",
    "\u00e4", "\u0430", "a\u0301", "\uff41", "a" * 9, "a" * 1000,
)

DEEDS = {
    "begin": begin_task, "map": map_pages, "unmap": unmap_pages, "rights": change_rights, "share": share_pages,
    "read": read_word, "write": write_word, "fork": fork_task, "end": end_task,
}


def told_rows(rows):
    """Pages and leaves as a list that can be compared: leaves told as rows."""
    return [(page, leaf.row()) for page, leaf in rows]


def bad_stretches(pages):
    """Firsts and lengths that make no stretch of so many pages, 64 or more of them."""
    told = [(first, many) for first in (0, pages - 1) for many in (0, -1, 65, 66) + FAR_ABOVE + FAR_BELOW]
    told += [(first, 1) for first in (-1, pages, pages + 1, -pages) + FAR_BELOW]
    told += [(far + pages, 2) for far in FAR_ABOVE]
    return told + [(pages - 1, 2), (pages - 63, 64), (-1, 3)]


def refusal_told(error):
    """A refusal as a tuple: the name of its class, and its fields."""
    fields = ()
    if isinstance(error, Taken):
        fields = (error.page,)
    if isinstance(error, Fault):
        fields = (error.task, error.address, error.deed)
    return (type(error).__name__,) + fields


def answer_of(memory, deed, handed):
    """What the memory answers to a deed: ("told", what), or the refusal as a tuple."""
    try:
        return ("told", DEEDS[deed](memory, *handed))
    except LeafError as error:
        return refusal_told(error)


def contents_told(pool):
    """The words of each content of a pool, by the leaf that would name it."""
    leaves = [Held(0, frame) for frame, count in enumerate(pool.frames()) if count]
    leaves += [Out(0, slot) for slot, count in enumerate(pool.slots()) if count]
    return [(leaf.row(), pool.words(leaf)) for leaf in leaves]


def snapshot(memory):
    """All that is to be found in a memory, as values that can be compared."""
    names = [row[0] for row in memory.shares.rows()]
    return (
        [(task, told_rows(space.rows()), space.tables()) for task, space in sorted(memory.spaces.items())],
        memory.shares.rows(), [[leaf.row() for leaf in memory.shares.parts(name)] for name in names],
        memory.pool.frames(), memory.pool.slots(), memory.pool.marks(), memory.pool.hand.at(),
        contents_told(memory.pool), memory.near.rows(), live_tasks(memory), room_left(memory), walks_of(memory),
    )


class FlatMemory:
    """The flat memories of [3], for all tasks; it counts contents as [4] tells, so it knows when Full is due.

    A page is [rights, row], a row is [words, content]: content is None, or a list of how many pages name it.
    A page of a share is [rights, row, name], its row being the share's.
    """

    def __init__(self, shape, room):
        self.page_count, self.size, self.room = shape.pages(), shape.size(), room
        self.tasks, self.shares, self.contents = {}, {}, 0

    def answer(self, deed, handed):
        if deed == "begin":
            return ("told", self.begin())
        if handed[0] not in self.tasks:
            return ("NoTask",)
        answer = getattr(self, deed)(*handed)
        return answer if type(answer) is tuple else ("told", answer)

    def begin(self):
        task = min(set(range(len(self.tasks) + 1)) - set(self.tasks))
        self.tasks[task] = {}
        return task

    def fork(self, task):
        pages = {number: self.copied(page) for number, page in self.tasks[task].items()}
        child = self.begin()
        self.tasks[child] = pages
        return child

    def copied(self, page):
        if len(page) == 3:
            self.shares[page[2]]["uses"] += 1
            return list(page)
        rights, (words, content) = page
        if content is not None:
            content[0] += 1
        return [rights, [list(words), content]]

    def end(self, task):
        for page in self.tasks.pop(task).values():
            self.let_go(page)

    def stretch(self, first, many):
        return range(first, first + many) if 1 <= many <= 64 and 0 <= first <= self.page_count - many else None

    def first_taken(self, task, pages):
        taken = [page for page in pages if page in self.tasks[task]]
        return ("Taken", taken[0]) if taken else None

    def first_missing(self, task, pages, deed):
        missing = [page for page in pages if page not in self.tasks[task]]
        return ("Unmapped", task, missing[0] * self.size, deed) if missing else None

    def map(self, task, first, many, rights):
        pages = self.stretch(first, many)
        if pages is None:
            return ("NoStretch",)
        if rights not in range(4):
            return ("NoRights",)
        if self.first_taken(task, pages):
            return self.first_taken(task, pages)
        for page in pages:
            self.tasks[task][page] = [rights, [[0] * self.size, None]]

    def unmap(self, task, first, many):
        pages = self.stretch(first, many)
        if pages is None:
            return ("NoStretch",)
        if self.first_missing(task, pages, "unmap"):
            return self.first_missing(task, pages, "unmap")
        for page in pages:
            self.let_go(self.tasks[task].pop(page))

    def let_go(self, page):
        if len(page) == 2:
            self.fewer(page[1])
            return
        share = self.shares[page[2]]
        share["uses"] -= 1
        if share["uses"] == 0:
            for row in self.shares.pop(page[2])["rows"]:
                self.fewer(row)

    def fewer(self, row):
        if row[1] is not None:
            row[1][0] -= 1
            self.contents -= row[1][0] == 0

    def rights(self, task, first, many, rights):
        pages = self.stretch(first, many)
        if pages is None:
            return ("NoStretch",)
        if rights not in range(4):
            return ("NoRights",)
        if self.first_missing(task, pages, "rights"):
            return self.first_missing(task, pages, "rights")
        for page in pages:
            self.tasks[task][page][0] = rights

    def share(self, task, name, first, many, rights):
        pages = self.stretch(first, many)
        if pages is None:
            return ("NoStretch",)
        if rights not in range(4):
            return ("NoRights",)
        if not 1 <= len(name) <= 8 or set(name) - set("abcdefghijklmnopqrstuvwxyz"):
            return ("NoName",)
        if name in self.shares and len(self.shares[name]["rows"]) != many:
            return ("Unlike",)
        if self.first_taken(task, pages):
            return self.first_taken(task, pages)
        if name not in self.shares:
            self.shares[name] = {"rows": [[[0] * self.size, None] for page in pages], "uses": 0}
        self.shares[name]["uses"] += many
        for page in pages:
            self.tasks[task][page] = [rights, self.shares[name]["rows"][page - first], name]

    def sought(self, task, address, deed, right):
        page = self.tasks[task].get(address // self.size)
        if page is None:
            return ("Unmapped", task, address, deed)
        return None if page[0] & right else ("Barred", task, address, deed)

    def read(self, task, address):
        if not 0 <= address < self.page_count * self.size:
            return ("NoAddress",)
        return self.sought(task, address, "read", 1) or self.row_at(task, address)[0][address % self.size]

    def row_at(self, task, address):
        return self.tasks[task][address // self.size][1]

    def write(self, task, address, word):
        if not 0 <= address < self.page_count * self.size:
            return ("NoAddress",)
        if type(word) is not int or not 0 <= word <= TOP_WORD:
            return ("NoWord",)
        if self.sought(task, address, "write", 2):
            return self.sought(task, address, "write", 2)
        row = self.row_at(task, address)
        if row[1] is None or row[1][0] > 1:
            if self.contents == self.room:
                return ("Full",)
            self.fewer(row)
            row[1] = [1]
            self.contents += 1
        row[0][address % self.size] = word

    def leaf_count(self):
        return sum(len(pages) for pages in self.tasks.values())


class Case(unittest.TestCase):
    def refused(self, kind, call, *handed):
        """The call is refused with this very class, not with one above or below it."""
        with self.assertRaises(kind) as seen:
            call(*handed)
        self.assertIs(type(seen.exception), kind)
        return seen.exception

    def faulted(self, kind, fields, call, *handed):
        """The call is refused with this very fault, of this task, address and deed."""
        fault = self.refused(kind, call, *handed)
        self.assertEqual((fault.task, fault.address, fault.deed), fields)

    def taken(self, page, call, *handed):
        """The call is refused with Taken, and this is the page."""
        self.assertEqual(self.refused(Taken, call, *handed).page, page)

    def refused_by(self, memory, kind, call, *handed):
        """The memory refuses the call, and behind it all is as it was. The error is told."""
        ahead = snapshot(memory)
        error = self.refused(kind, call, memory, *handed)
        self.assertEqual(snapshot(memory), ahead)
        return error
