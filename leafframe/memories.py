"""The memory of all tasks: a shape, a pool, a near-table, shares, and a space for each task."""

from leafframe.errors import NoTask
from leafframe.near import Near
from leafframe.pools import Pool
from leafframe.shares import Shares
from leafframe.spaces import Space


class Memory:
    def __init__(self, shape, frames, slots, near=0):
        self.shape = shape
        self.pool = Pool(frames, slots, shape.size())
        self.near = Near(near)
        self.shares = Shares()
        self.spaces = {}
        self.walks = 0


def least_free_task(memory):
    task = 0
    while task in memory.spaces:
        task = task + 1
    return task


def begin_task(memory):
    task = least_free_task(memory)
    memory.spaces[task] = Space(memory.shape, task)
    return task


def space_of(memory, task):
    if task not in memory.spaces:
        raise NoTask("no such task")
    return memory.spaces[task]


def live_tasks(memory):
    return sorted(memory.spaces)


def room_left(memory):
    return memory.pool.room()


def walks_of(memory):
    return memory.walks
