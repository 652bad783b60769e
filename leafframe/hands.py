"""The hand that goes round the frames and chooses which one is put out."""

from leafframe.errors import NoShape

MOST_FRAMES = 64


class Hand:
    def __init__(self, many):
        if not 1 <= many <= MOST_FRAMES:
            raise NoShape("a hand goes round 1 to 64 frames")
        self.marked = [False] * many
        self.standing = 0

    def mark(self, frame):
        self.marked[frame] = True

    def unmark(self, frame):
        self.marked[frame] = False

    def go_on(self):
        self.standing = (self.standing + 1) % len(self.marked)

    def chosen(self):
        while self.marked[self.standing]:
            self.unmark(self.standing)
            self.go_on()
        frame = self.standing
        self.go_on()
        return frame

    def marks(self):
        return list(self.marked)

    def at(self):
        return self.standing
