"""Tasks that fork and end."""

from leafframe.contents import count_less, count_more
from leafframe.memories import least_free_task, space_of


def fork_task(memory, task):
    space = space_of(memory, task)
    child = least_free_task(memory)
    for page, leaf in space.rows():
        count_more(memory, leaf)
    memory.spaces[child] = space.like(child)
    return child


def end_task(memory, task):
    space = space_of(memory, task)
    for page, leaf in space.rows():
        count_less(memory, leaf)
    # The number may be another task's soon.
    memory.near.forget_task(task)
    memory.spaces.pop(task)
