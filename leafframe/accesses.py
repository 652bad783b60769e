"""Words read and written: by the near-table where it knows the page, else by a walk."""

from leafframe.contents import content_leaf, content_less, move_leaves
from leafframe.leaves import Fresh, Held, Named, lets
from leafframe.memories import space_of
from leafframe.pools import moved_by
from leafframe.stores import check_word

READ_ALONE = 1


def read_word(memory, task, address):
    space = space_of(memory, task)
    frame = near_frame(memory, task, address, "read")
    if frame is not None:
        return memory.pool.word(frame, memory.shape.place_of(address))
    found = space.seek(address, "read")
    word = read_found(memory, task, found[0], found[1], found[2])
    memory.walks = memory.walks + 1
    return word


def write_word(memory, task, address, word):
    space = space_of(memory, task)
    frame = near_frame(memory, task, address, "write")
    check_word(word)
    if frame is not None:
        memory.pool.put(frame, memory.shape.place_of(address), word)
        return
    found = space.seek(address, "write")
    content = written_content(memory, found[1], found[2], word)
    put_content(memory, task, found[0], found[2], content)
    note_frame(memory, task, found[0], found[2], content.frame)
    memory.walks = memory.walks + 1


def near_frame(memory, task, address, deed):
    """The frame where the near-table lets the deed be done; None where a walk is needed."""
    known = memory.near.found(task, memory.shape.page_of(address))
    if known is None or not lets(known[1], deed):
        return None
    return known[0]


def note_frame(memory, task, page, leaf, frame):
    rights = leaf.rights
    if not isinstance(leaf, Named) and memory.pool.count(Held(rights, frame)) > 1:
        rights = rights & READ_ALONE
    memory.near.note(task, page, frame, rights)


def read_found(memory, task, page, place, leaf):
    content = content_leaf(memory, leaf)
    if isinstance(content, Fresh):
        return 0
    frame = brought_in(memory, content).frame
    note_frame(memory, task, page, leaf, frame)
    return memory.pool.word(frame, place)


def brought_in(memory, content):
    """The leaf of a content behind its being fetched, if it lay in a slot."""
    if isinstance(content, Held):
        return content
    told = memory.pool.fetched(content.slot)
    move_leaves(memory, told[1])
    return Held(content.rights, told[0])


def written_content(memory, place, leaf, word):
    """The leaf of the content that the word is written to: a new one, where the old one may not be written."""
    content = content_leaf(memory, leaf)
    if needs_new_content(memory, leaf, content):
        return new_content(memory, content, place, word)
    content = brought_in(memory, content)
    memory.pool.put(content.frame, place, word)
    return content


def needs_new_content(memory, leaf, content):
    if isinstance(content, Fresh):
        return True
    return not isinstance(leaf, Named) and memory.pool.count(content) > 1


def new_content(memory, content, place, word):
    words = memory.pool.words(content)
    words[place] = word
    # Only this may still be refused, with Full; nothing is changed ahead of it.
    told = memory.pool.made(words)
    move_leaves(memory, told[1])
    content_less(memory, moved_by(content, told[1]))
    return Held(content.rights, told[0])


def put_content(memory, task, page, leaf, content):
    if isinstance(leaf, Named):
        memory.shares.put(leaf.name, leaf.part, content)
    else:
        space_of(memory, task).put(page, content)
