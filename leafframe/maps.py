"""Pages mapped, unmapped, shared, and their rights changed."""

from leafframe.contents import count_less
from leafframe.leaves import Fresh, Named, check_rights
from leafframe.memories import space_of


def forget_pages(memory, task, first, many):
    for page in memory.shape.stretch(first, many):
        memory.near.forget(task, page)


def map_pages(memory, task, first, many, rights):
    space = space_of(memory, task)
    # What is no stretch is refused ahead of making so many leaves, and ahead of their rights.
    pages = memory.shape.stretch(first, many)
    space.lay(first, [Fresh(rights) for page in pages])


def unmap_pages(memory, task, first, many):
    leaves = space_of(memory, task).lift(first, many)
    forget_pages(memory, task, first, many)
    for leaf in leaves:
        count_less(memory, leaf)


def change_rights(memory, task, first, many, rights):
    space_of(memory, task).change(first, many, rights)
    forget_pages(memory, task, first, many)


def share_pages(memory, task, name, first, many, rights):
    space = space_of(memory, task)
    pages = memory.shape.stretch(first, many)
    check_rights(rights)
    memory.shares.fits(name, many)
    space.lay(first, [Named(rights, name, page - first) for page in pages])
    memory.shares.use(name, many)
