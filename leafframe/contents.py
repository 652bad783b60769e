"""What leaves name: contents and shares, counted and moved together with all leaves that name them."""

from leafframe.leaves import Held, Named
from leafframe.pools import moved_by


def content_leaf(memory, leaf):
    """The leaf that tells where the words lie: of a share's part, the share's own."""
    if isinstance(leaf, Named):
        return memory.shares.leaf(leaf.name, leaf.part)
    return leaf


def forget_content(memory, leaf):
    # Whether the near-table may let a content be written hangs on how many leaves name it.
    if isinstance(leaf, Held):
        memory.near.forget_frame(leaf.frame)


def content_more(memory, leaf):
    memory.pool.more(leaf)
    forget_content(memory, leaf)


def content_less(memory, leaf):
    memory.pool.less(leaf)
    forget_content(memory, leaf)


def count_more(memory, leaf):
    """A task has one more such leaf."""
    if isinstance(leaf, Named):
        memory.shares.more(leaf.name)
    else:
        content_more(memory, leaf)


def count_less(memory, leaf):
    """A task has one such leaf fewer."""
    if isinstance(leaf, Named):
        for part in memory.shares.less(leaf.name):
            content_less(memory, part)
    else:
        content_less(memory, leaf)


def move_leaves(memory, moves):
    if len(moves) == 0:
        return
    for way, frame, slot in moves:
        memory.near.forget_frame(frame)
    for task in list(memory.spaces):
        move_task(memory.spaces[task], moves)
    for name, many, uses in memory.shares.rows():
        move_share(memory.shares, name, moves)


def move_task(space, moves):
    for page, leaf in space.rows():
        moved = moved_by(leaf, moves)
        if moved != leaf:
            space.put(page, moved)


def move_share(shares, name, moves):
    for part, leaf in enumerate(shares.parts(name)):
        shares.put(name, part, moved_by(leaf, moves))
