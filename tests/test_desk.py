"""leafframe.desk: points [29] to [32], and [2] for them."""

import random
import unittest

from leafframe.accesses import read_word, write_word
from leafframe.desk import Desk, opened, run_text
from leafframe.errors import NoRow, NoShape
from leafframe.maps import map_pages
from leafframe.memories import Memory, begin_task, live_tasks, room_left, walks_of
from leafframe.shapes import Shape
from tests.helper import Case, FlatMemory, snapshot

OPENING = "memory 3,4 2 8 10 0"
# Rows that no desk knows, whatever memory it has.
NO_ROWS = (
    "", " ", "  ", "Begin", "BEGIN", "begins", "beg", " begin", "begin ", "begin 0", "fork", "fork ", "fork  0",
    " fork 0", "fork 0 ", "fork 0 1", "fork x", "fork -1", "fork 00", "fork A", "fork 0x0", "end", "end ", "end 0 0",
    "map", "map 0 0 1", "map 0 0 1 ", "map 0 0 1 rw rw", "map 0 0 1 wr", "map 0 0 1 3", "map 0 0 1 RW", "map 0 0 -1 r",
    "map 0 0 01 r", "map 0  1 r", "map 0 0  r", "map  0 0 1 r", "map 0 0 1  r", "map r 0 1 r", "unmap", "unmap 0 0",
    "unmap 0 0 1 r", "unmap 0 0 ", "rights 0 0 1", "rights 0 0 1 x", "rights 0 0 1 r r", "share 0 a 0 1",
    "share 0 a 0 1 r r", "share 0 a 0 1 ", "share 0 a 0 x r", "share 0 0 1 r", "share g a 0 1 r", "share 0 a a  r",
    "read", "read 0", "read 0 ", "read 0 0 0", "read 0  0", "read  0 0", "read 0 g", "write 0 0", "write 0 0 ",
    "write 0 0 0 0", "write 0 0 -1", "write 0 0 1.5", "page", "page 0", "page 0 ", "page 0 0 0", "page 0 -", "room ",
    " room", "room 0", "rooms", "tasks ", "tasks 0", "task", "look", "ok", "memory", OPENING, "none", "no row", "0", "-",
    "write 0 0 " + "1" * 21, "read 0 " + "f" * 21, "fork " + "1" + "0" * 20, "map 0 0 " + "1" * 21 + " r",
    "begin\n", "\nbegin", "begin\nbegin", "begin\t", "room\r", "fork\t0", "begin\x00", "fork \u0660", "\u00e4",
    "begin%", "%", "% begin", "fork %0", "share 0 a% 0 1 r", "share 0 \u00e4 0 1 r", "share 0 a\tb 0 1 r",
)


def desk_with(*rows, opening=OPENING):
    """A desk that was told these rows."""
    desk = opened(opening)
    for row in rows:
        desk.say(row)
    return desk


class DeskCase(Case):
    def says(self, desk, *told):
        """The desk answers so: row, answer, row, answer .."""
        for row, answer in zip(told[::2], told[1::2]):
            self.assertEqual(desk.say(row), answer, row)

    def refused_say(self, desk, row):
        ahead = snapshot(desk.memory)
        self.refused(NoRow, desk.say, row)
        self.assertEqual(snapshot(desk.memory), ahead)


class Opening(DeskCase):
    def test_the_memory_that_is_opened(self):
        desk = opened(OPENING)
        self.assertIs(type(desk), Desk)
        # 8 frames, 16 slots, pages of four words, 128 of them
        self.says(desk, "room", "18", "tasks", "", "begin", "0", "map 0 7f 1 rw", "ok", "map 0 80 1 rw", "no stretch",
                  "page 0 7f", "rw 0 0 0 0", "read 0 1ff", "0", "read 0 200", "no address")

    def test_least_and_greatest_numbers(self):
        for row, room in (("memory 1,1 0 1 0 0", "1"), ("memory 1,1,1 0 1 0 1", "1"), ("memory 18,18,18 6 40 40 40", "80"),
                          ("memory 18,18 6 40 40 20", "80"), ("memory a,b 3 a b 10", "15")):
            self.says(opened(row), "room", room)

    def test_the_near_table_that_is_opened(self):
        for near, walks in (("0", 3), ("1", 1), ("40", 1)):
            desk = desk_with("begin", "map 0 0 1 rw", "write 0 0 5", "read 0 0", "read 0 0",
                             opening="memory 1,1 0 1 0 " + near)
            self.assertEqual(walks_of(desk.memory), walks)

    def test_no_row(self):
        for row in ("", " ", "memory", "memory ", OPENING + " ", " " + OPENING, OPENING + " 0", "memory 3,4 2 8 10",
                    "Memory 3,4 2 8 10 0", "memories 3,4 2 8 10 0", "3,4 2 8 10 0", "memory  3,4 2 8 10 0",
                    "memory 3,4  2 8 10 0", "memory 3, 4 2 8 10 0", "memory 3 4 2 8 10 0", "memory ,4 2 8 10 0",
                    "memory 3, 2 8 10 0", "memory , 2 8 10 0", "memory 3,,4 2 8 10 0", "memory  2 8 10 0",
                    "memory 3;4 2 8 10 0", "memory 03,4 2 8 10 0", "memory 3,04 2 8 10 0", "memory 3,4 02 8 10 0",
                    "memory 3,4 2 08 10 0", "memory 3,4 2 8 010 0", "memory 3,4 2 8 10 00", "memory 3,4 2 8 10 ",
                    "memory 3,4 2 8  0", "memory 3,g 2 8 10 0", "memory 3,A 2 8 10 0", "memory 3,-4 2 8 10 0",
                    "memory 3,4 -2 8 10 0", "memory 3,4 2,2 8 10 0", "memory 3,4 2 8,1 10 0", "memory 3,4 2 8 10 r",
                    "memory " + "1" * 21 + ",4 2 8 10 0", "memory 3,4 2 8 10 " + "1" * 21, OPENING + "\n", "begin",
                    "memory\t3,4 2 8 10 0", "memory 3,4 2 8 10 0%", "memory 3,4 2 8 10 \u0660", "%", "\n",
                    # No row goes ahead of no shape.
                    "memory 0,4 2 8 10 x", "memory 1 2 8 10", "memory 3,4 7 8 10 ", "memory 0,x 2 8 10 0"):
            self.refused(NoRow, opened, row)

    def test_no_shape(self):
        for row in ("memory 3 2 8 10 0", "memory 1,1,1,1 2 8 10 0", "memory 0,4 2 8 10 0", "memory 3,0 2 8 10 0",
                    "memory 19,4 2 8 10 0", "memory 3,4,19 2 8 10 0", "memory 3,4 7 8 10 0", "memory 3,4 2 0 10 0",
                    "memory 3,4 2 41 10 0", "memory 3,4 2 8 41 0", "memory 3,4 2 8 10 3", "memory 3,4 2 8 10 41",
                    "memory 3,4 2 8 10 80", "memory 3,4 2 8 10 30", "memory 0 0 0 0 0",
                    "memory " + "f" * 20 + ",4 2 8 10 0", "memory 3,4 " + "f" * 20 + " 8 10 0",
                    "memory 3,4 2 " + "f" * 20 + " 10 0", "memory 3,4 2 8 " + "f" * 20 + " 0",
                    "memory 3,4 2 8 10 " + "f" * 20, "memory " + ",".join(["1"] * 100) + " 2 8 10 0"):
            self.refused(NoShape, opened, row)

    def test_a_desk_goes_on_with_the_memory_that_it_was_given(self):
        memory = Memory(Shape([3, 4], 2), 2, 2)
        begin_task(memory)
        map_pages(memory, 0, 5, 1, 3)
        write_word(memory, 0, 21, 31)
        desk = Desk(memory)
        self.says(desk, "tasks", "0", "read 0 15", "1f", "begin", "1", "write 0 16 ff", "ok")
        self.assertEqual((live_tasks(memory), read_word(memory, 0, 22), room_left(memory)), ([0, 1], 255, 3))
        write_word(memory, 0, 20, 1)
        self.says(Desk(memory), "page 0 5", "rw 1 1f ff 0", "tasks", "0 1")
        self.says(desk, "page 0 5", "rw 1 1f ff 0")


class Answers(DeskCase):
    def test_tasks(self):
        desk = opened(OPENING)
        self.says(desk, "tasks", "", "begin", "0", "tasks", "0", "begin", "1", "fork 0", "2", "tasks", "0 1 2",
                  "end 1", "ok", "tasks", "0 2", "fork 2", "1", "end 0", "ok", "end 1", "ok", "end 2", "ok", "tasks", "")
        for task in range(18):
            desk.say("begin")
        self.says(desk, "begin", "12", "fork 12", "13", "tasks", "0 1 2 3 4 5 6 7 8 9 a b c d e f 10 11 12 13")

    def test_maps_and_rights(self):
        desk = desk_with("begin")
        for number, rights in enumerate(("-", "r", "w", "rw")):
            self.says(desk, f"map 0 {number} 1 {rights}", "ok", f"page 0 {number}", f"{rights} 0 0 0 0")
        self.says(desk, "page 0 4", "none", "page 0 7f", "none", "rights 0 1 3 -", "ok", "page 0 0", "- 0 0 0 0",
                  "page 0 1", "- 0 0 0 0", "page 0 3", "- 0 0 0 0", "unmap 0 1 2", "ok", "page 0 1", "none",
                  "page 0 2", "none", "page 0 3", "- 0 0 0 0", "map 0 40 40 rw", "ok", "page 0 7f", "rw 0 0 0 0")

    def test_reads_and_writes(self):
        desk = desk_with("begin", "map 0 10 10 rw")
        self.says(desk, "read 0 41", "0", "write 0 41 1f", "ok", "read 0 41", "1f", "page 0 10", "rw 0 1f 0 0",
                  "write 0 43 ffffffffffffffff", "ok", "read 0 43", "ffffffffffffffff", "write 0 40 0", "ok",
                  "page 0 10", "rw 0 1f 0 ffffffffffffffff", "room", "17", "rights 0 10 1 r", "ok",
                  "page 0 10", "r 0 1f 0 ffffffffffffffff")

    def test_pages_of_one_word_and_of_64(self):
        self.says(desk_with("begin", "map 0 0 1 r", opening="memory 1,1 0 1 0 0"), "page 0 0", "r 0")
        self.says(desk_with("begin", "map 0 0 1 rw", "write 0 3f a", opening="memory 1,1 6 1 0 0"),
                  "page 0 0", "rw" + " 0" * 63 + " a")

    def test_shares(self):
        desk = desk_with("begin", "begin")
        self.says(desk, "share 0 abcdefgh 0 2 rw", "ok", "share 1 abcdefgh 7e 2 r", "ok", "write 0 5 7", "ok",
                  "read 1 1fd", "7", "page 1 7f", "r 0 7 0 0", "page 1 7e", "r 0 0 0 0", "end 0", "ok",
                  "page 1 7f", "r 0 7 0 0", "room", "17", "unmap 1 7e 2", "ok", "room", "18")

    def test_forks(self):
        desk = desk_with("begin", "map 0 0 1 rw", "write 0 0 5", "fork 0", "write 1 0 6")
        self.says(desk, "page 0 0", "rw 5 0 0 0", "page 1 0", "rw 6 0 0 0", "room", "16", "end 0", "ok", "room", "17")

    def test_to_look_changes_nothing(self):
        desk = desk_with("begin", "map 0 0 2 rw", "write 0 0 5", "write 0 2 6", opening="memory 1,1 1 1 1 4")
        ahead = snapshot(desk.memory)
        self.says(desk, "page 0 0", "rw 5 0", "page 0 1", "rw 6 0", "page 0 2", "none", "room", "0", "tasks", "0")
        self.assertEqual(snapshot(desk.memory), ahead)

    def test_the_greatest_shape(self):
        desk = desk_with("begin", opening="memory 18,18,18 6 1 0 0")
        page, address = "f" * 18, "3" + "f" * 19
        self.says(desk, f"read 0 {address}", f"unmapped {address}", "read 0 4" + "0" * 19, "no address",
                  f"map 0 {page} 1 rw", "ok", f"write 0 {address} a", "ok", f"read 0 {address}", "a",
                  f"page 0 {page}", "rw" + " 0" * 63 + " a", f"map 0 {page} 1 r", f"taken {page}",
                  f"map 0 {page} 2 r", "no stretch", "page 0 1" + "0" * 18, "no address")


class Refused(DeskCase):
    def setUp(self):
        self.desk = desk_with("begin", "map 0 2 1 rw", "map 0 3 1 -", "map 0 4 1 r", "map 0 5 1 w", "map 0 10 1 rw",
                              "share 0 a 20 2 rw", "write 0 8 1", opening="memory 3,4 2 1 0 0")

    def refuses(self, *told):
        for row, answer in zip(told[::2], told[1::2]):
            ahead = snapshot(self.desk.memory)
            self.assertEqual(self.desk.say(row), answer, row)
            self.assertEqual(snapshot(self.desk.memory), ahead, row)

    def test_no_task(self):
        for row in ("fork 1", "end 1", "map 1 0 1 r", "unmap 1 2 1", "rights 1 2 1 r", "share 1 b 0 1 r", "read 1 8",
                    "write 1 8 1", "page 1 2", "end " + "f" * 20, "map 1 200 0 r", "unmap 1 2 0", "rights 1 2 0 r",
                    "share 1 B 0 0 r", "read 1 " + "f" * 20, "write 1 200 " + "f" * 17, "page 1 80"):
            self.refuses(row, "no task")

    def test_no_address(self):
        for row in ("read 0 200", "read 0 " + "f" * 20, "write 0 200 1", "write 0 200 " + "f" * 17, "page 0 80",
                    "page 0 " + "f" * 20):
            self.refuses(row, "no address")

    def test_no_stretch(self):
        for row in ("map 0 0 0 r", "map 0 0 41 r", "map 0 80 1 r", "map 0 7f 2 r", "map 0 2 0 r", "unmap 0 2 0",
                    "unmap 0 0 41", "unmap 0 7f 2", "rights 0 2 0 r", "rights 0 80 1 r", "share 0 b 0 0 r",
                    "share 0 B 2 41 r", "share 0 a 2 0 r", "map 0 " + "f" * 20 + " 1 r", "unmap 0 0 " + "f" * 20,
                    "share 0  0 0 r"):
            self.refuses(row, "no stretch")

    def test_no_word(self):
        for word in ("1" + "0" * 16, "f" * 17, "f" * 20):
            for address in ("8", "c", "0", "40", "10"):
                self.refuses(f"write 0 {address} {word}", "no word")

    def test_no_name(self):
        for name in ("", "A", "abcdefghi", "1", "a1", "-", "a,b", "~", "rw-", "!", "ok."):
            self.refuses(f"share 0 {name} 0 2 r", "no name")
            self.refuses(f"share 0 {name} 2 2 r", "no name")

    def test_names_that_are_other_words_too(self):
        for name in ("r", "rw", "w", "begin", "none", "f"):
            desk = desk_with("begin")
            self.says(desk, f"share 0 {name} 0 1 r", "ok")

    def test_unlike(self):
        self.refuses("share 0 a 0 1 r", "unlike", "share 0 a 2 3 r", "unlike", "share 0 a 0 40 -", "unlike")

    def test_taken(self):
        self.refuses("map 0 2 1 r", "taken 2", "map 0 0 40 r", "taken 2", "map 0 6 20 r", "taken 10",
                     "share 0 a f 2 r", "taken 10", "share 0 b 1f 2 rw", "taken 20", "map 0 21 1 -", "taken 21")

    def test_unmapped(self):
        self.refuses("read 0 7", "unmapped 7", "write 0 1ff 1", "unmapped 1ff", "unmap 0 1 2", "unmapped 4",
                     "unmap 0 2 20", "unmapped 18", "rights 0 10 2 r", "unmapped 44", "rights 0 0 1 -", "unmapped 0")

    def test_barred(self):
        self.refuses("read 0 c", "barred c", "write 0 f 1", "barred f", "write 0 13 1", "barred 13", "read 0 14", "barred 14")

    def test_full(self):
        self.refuses("write 0 40 1", "full", "write 0 14 0", "full", "write 0 80 1", "full")
        self.says(self.desk, "write 0 9 1", "ok", "page 0 2", "rw 1 1 0 0")


class NoRows(DeskCase):
    def test_rows_that_are_none(self):
        for desk in (opened(OPENING), desk_with("begin", "map 0 0 2 rw", "write 0 0 1")):
            for row in NO_ROWS:
                self.refused_say(desk, row)

    def test_go_ahead_of_each_refusal(self):
        desk = opened(OPENING)
        for row in ("map 9 0 0 x", "share 9 A 0 0 ", "write 9 200 " + "1" * 21, "read 9 "):
            self.refused_say(desk, row)

    def test_every_sign_as_a_name(self):
        desk = desk_with("begin")
        for number in range(32, 127):
            sign = chr(number)
            if sign == "%":
                self.refused_say(desk, f"share 0 {sign} 0 1 r")
            elif sign == " ":
                self.refused_say(desk, f"share 0 {sign} 0 1 r")
            elif not sign.isalpha() or sign.isupper():
                self.says(desk, f"share 0 {sign} 0 1 r", "no name")
            else:
                self.says(desk, f"share 0 {sign} 0 1 r", "ok", "unmap 0 0 1", "ok")


class WholeTexts(DeskCase):
    def test_rows_and_answers(self):
        text = "memory 3,4 2 8 10 0\nbegin\nmap 0 0 2 rw\nwrite 0 1 1f\npage 0 0\ntasks\nread 0 1\nroom\nbye\nread 1 1"
        self.assertEqual(run_text(text), "0\nok\nok\nrw 0 1f 0 0\n0\n1f\n17\nno row\nno task")

    def test_one_row_alone(self):
        self.assertEqual(run_text(OPENING), "")

    def test_a_row_end_at_the_end(self):
        self.assertEqual(run_text(OPENING + "\n"), "no row")
        self.assertEqual(run_text(OPENING + "\n\n"), "no row\nno row")
        self.assertEqual(run_text(OPENING + "\nbegin\n"), "0\nno row")
        self.assertEqual(run_text(OPENING + "\n\nbegin"), "no row\n0")

    def test_an_answer_without_signs(self):
        self.assertEqual(run_text(OPENING + "\ntasks"), "")
        self.assertEqual(run_text(OPENING + "\ntasks\ntasks"), "\n")
        self.assertEqual(run_text(OPENING + "\ntasks\nbegin\ntasks"), "\n0\n0")

    def test_rows_that_are_none(self):
        rows = [row for row in NO_ROWS if "\n" not in row]
        self.assertEqual(run_text("\n".join([OPENING] + rows + ["room"])), "no row\n" * len(rows) + "18")

    def test_the_first_row(self):
        for text in ("", "\n", "\n" + OPENING, "begin", "begin\n" + OPENING, OPENING + " \nbegin", " " + OPENING, "%"):
            self.refused(NoRow, run_text, text)
        for text in ("memory 1 2 8 10 0", "memory 1 2 8 10 0\n", "memory 3,4 2 0 10 0\nbegin\nnothing"):
            self.refused(NoShape, run_text, text)

    def test_texts_apart(self):
        text = OPENING + "\nbegin\nshare 0 a 0 1 rw\nread 0 0\nwrite 0 0 5\nread 0 0"
        for turn in range(2):
            self.assertEqual(run_text(text), "0\nok\n0\nok\n5")

    def test_a_thousand_rows(self):
        rows = [f"write 0 {number % 64:x} {number:x}\nread 0 {number % 64:x}" for number in range(498)]
        answers = [f"ok\n{number:x}" for number in range(498)]
        for opening in ("memory 3,4 2 10 0 0", "memory 3,4 2 1 f 0", "memory 3,4 2 2 e 4"):
            self.assertEqual(run_text("\n".join([opening, "begin", "map 0 0 10 rw"] + rows)),
                             "\n".join(["0", "ok"] + answers))


class LongRow(DeskCase):
    """Rows drawn at random, answered as the flat memories would."""

    REFUSALS = {"NoTask": "no task", "NoAddress": "no address", "NoStretch": "no stretch", "NoWord": "no word",
                "NoName": "no name", "Unlike": "unlike", "Full": "full"}
    RIGHTS = ("-", "r", "w", "rw")

    def test_as_flat_memories_would_answer(self):
        for seed, opening in enumerate(("memory 1,2 1 1 4 1", "memory 1,2 1 3 2 8", "memory 1,1,1 0 2 0 0")):
            chance, desk = random.Random(seed), opened(opening)
            flat = FlatMemory(desk.memory.shape, room_left(desk.memory))
            rows, answers = [], []
            for turn in range(900):
                deed, handed = self.drawn(chance, flat)
                rows.append(self.row_of(deed, handed))
                answers.append(self.answer_text(flat.answer(deed, handed)))
                self.assertEqual(desk.say(rows[-1]), answers[-1], rows[-1])
            self.assertEqual(run_text("\n".join([opening] + rows)), "\n".join(answers))

    def drawn(self, chance, flat):
        deed = chance.choice(["write"] * 5 + ["read"] * 5 + ["map", "share", "map", "unmap", "rights", "fork", "end", "begin"])
        if deed in ("begin", "fork") and len(flat.tasks) > 4:
            deed = "end"
        handed = [] if deed == "begin" else [chance.choice(sorted(flat.tasks) + [9])]
        if deed in ("map", "unmap", "rights", "share"):
            handed += [chance.randrange(9), chance.randrange(4)]
        if deed in ("map", "rights", "share"):
            handed += [chance.choice((0, 1, 2, 3, 3, 3))]
        if deed == "share":
            handed.insert(1, chance.choice(("a", "b", "", "A")))
        if deed in ("read", "write"):
            handed += [chance.randrange(8 * flat.size + 1)]
        if deed == "write":
            handed += [chance.choice((0, 1, 2 ** 64 - 1, 2 ** 64))]
        return deed, handed

    def row_of(self, deed, handed):
        words = [thing if isinstance(thing, str) else f"{thing:x}" for thing in handed]
        if deed in ("map", "rights", "share"):
            words[-1] = self.RIGHTS[handed[-1]]
        return " ".join([deed] + words)

    def answer_text(self, answer):
        if answer[0] == "told":
            return "ok" if answer[1] is None else f"{answer[1]:x}"
        if answer[0] == "Taken":
            return f"taken {answer[1]:x}"
        if answer[0] in ("Unmapped", "Barred"):
            return f"{answer[0].lower()} {answer[2]:x}"
        return self.REFUSALS[answer[0]]


if __name__ == "__main__":
    unittest.main()
