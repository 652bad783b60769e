"""The near-table: late answers, each at the one place where it can lie."""

from leafframe.errors import NoShape

SIZES = (0, 1, 2, 4, 8, 16, 32, 64)


class Near:
    def __init__(self, many):
        if many not in SIZES:
            raise NoShape("a near-table has 0, 1, 2, 4, 8, 16, 32 or 64 places")
        self.many = many
        self.lines = {}

    def place_for(self, task, page):
        return (page ^ task) & (self.many - 1)

    def found(self, task, page):
        line = self.lines.get(self.place_for(task, page))
        if line is None or line[:2] != (task, page):
            return None
        return line[2:]

    def note(self, task, page, frame, rights):
        if self.many > 0:
            self.lines[self.place_for(task, page)] = (task, page, frame, rights)

    def forget(self, task, page):
        if self.found(task, page) is not None:
            self.lines.pop(self.place_for(task, page))

    def forget_task(self, task):
        for place in list(self.lines):
            if self.lines[place][0] == task:
                self.lines.pop(place)

    def forget_frame(self, frame):
        for place in list(self.lines):
            if self.lines[place][2] == frame:
                self.lines.pop(place)

    def rows(self):
        return [self.lines[place] for place in sorted(self.lines)]
