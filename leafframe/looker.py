"""The looker: goes through all leaves of a memory, and tallies what they name. It changes nothing."""

from leafframe.contents import content_leaf
from leafframe.errors import Unmapped
from leafframe.memories import live_tasks, space_of


def leaf_rows(memory):
    rows = []
    for task in live_tasks(memory):
        for page, leaf in space_of(memory, task).rows():
            rows.append(("task", task, page, leaf.row()))
    for name, many, uses in memory.shares.rows():
        for part, leaf in enumerate(memory.shares.parts(name)):
            rows.append(("share", name, part, leaf.row()))
    return rows


def frame_counts(memory):
    return memory.pool.frames()


def slot_counts(memory):
    return memory.pool.slots()


def share_rows(memory):
    return memory.shares.rows()


def page_words(memory, task, page):
    space = space_of(memory, task)
    first = memory.shape.address_of(page, 0)
    leaf = space.leaf(page)
    if leaf is None:
        raise Unmapped(task, first, "look")
    return memory.pool.words(content_leaf(memory, leaf))


def named_by(rows, kind):
    """What the leaves of this kind name (frames, slots or shares), and how many of them name it."""
    named = {}
    for row in rows:
        leaf = row[3]
        if leaf[0] == kind:
            named[leaf[2]] = named.get(leaf[2], 0) + 1
    return named


def unlike_counts(what, named, counts):
    """A row for each one that is named by another number of rows than its count tells."""
    found = []
    for key in sorted(set(named) | set(counts)):
        if named.get(key, 0) != counts.get(key, 0):
            found.append((what, key, named.get(key, 0), counts.get(key, 0)))
    return found


def tallied(rows, frames, slots, shares):
    uses_of = {}
    for name, many, uses in shares:
        uses_of[name] = uses
    found = unlike_counts("frame", named_by(rows, "held"), dict(enumerate(frames)))
    found = found + unlike_counts("slot", named_by(rows, "out"), dict(enumerate(slots)))
    return found + unlike_counts("share", named_by(rows, "named"), uses_of)


def looked(memory):
    return tallied(leaf_rows(memory), frame_counts(memory), slot_counts(memory), share_rows(memory))
