"""Desks: lines and what they are answered by."""

import unittest

from darkthread import errors
from darkthread.askings import asking_text
from darkthread.book import Book
from darkthread.desk import Desk
from darkthread.lines import deed_text
from tests.plain import Chance
from tests.plainbook import PlainBook, book_of, come_to, shape_due, shape_of
from tests.somedeeds import BAD_NAMES, LIVELY, some_asking, some_deed
from tests.texts import is_line

START = ("room hall", "room stair", "room attic", "door hall stair", "door stair attic", "watcher zoe 1")


def told(desk, *lines):
    return [desk.say(line) for line in lines]


def shown(value):
    """What an asking comes to, as the document writes it."""
    if value is None or value == ():
        return "none"
    return " ".join(map(str, value)) if isinstance(value, tuple) else str(value)


class Lines(unittest.TestCase):
    def setUp(self):
        self.desk = Desk()
        self.assertEqual(told(self.desk, *START), ["done"] * len(START))

    def check(self, *pairs):
        for line, answer in pairs:
            self.assertEqual(self.desk.say(line), answer, line)

    def test_deeds(self):
        self.check(("post p hall,stair,hall 2", "done"), ("rule yes 3", "done"), ("watch w way hall attic -4", "done"),
                   ("delay p 1", "done"), ("sight hall attic", "done"), ("curtain hall attic", "done"),
                   ("lamp zoe 0", "done"), ("watcher abe 1", "done"), ("leave abe", "done"), ("unwatch w", "done"),
                   ("call p", "done"), ("wall hall stair", "done"), ("strike hall", "done"))
        self.assertEqual(len(self.desk.book()), len(START) + 13)
        self.assertEqual(self.desk.book().deeds()[len(START)], ("post", "p", ("hall", "stair", "hall"), 2))

    def test_undo_and_redo(self):
        self.check(("post p hall,stair,hall 2", "done"), ("rule yes 3", "done"), ("redo", "no Nothing"),
                   ("undo", "rule yes 3"), ("undo", "post p hall,stair,hall 2"), ("redo", "post p hall,stair,hall 2"),
                   ("room Hall", "no line"), ("room hall", "no Taken"), ("ask wheel", "3"), ("notes", "none"),
                   ("redo", "rule yes 3"), ("redo", "no Nothing"), ("undo", "rule yes 3"), ("rule no 0", "done"),
                   ("redo", "no Nothing"))
        for deed in ("rule no 0", "post p hall,stair,hall 2") + START[::-1]:
            self.check(("undo", deed))
        self.check(("undo", "no Nothing"), ("undo", "no Nothing"), ("redo", START[0]))

    def test_ask(self):
        self.check(("ask wheel", "1"), ("ask lit 3", "none"), ("ask way hall attic", "2"), ("ask linger hall 0", "ever"),
                   ("post p hall,stair,hall 2", "done"), ("ask where p 0", "stair"), ("ask who p -3", "zoe"),
                   ("ask lit 0", "stair"), ("ask meets p p", "0 1 2"), ("ask way hall attic", "none"),
                   ("ask way hall hall 0", "0"), ("ask linger stair 0", "seen"), ("ask linger attic 1000000000", "ever"),
                   ("sight stair attic", "done"), ("ask lit 0", "stair attic"), ("ask linger attic 1", "1"),
                   ("ask linger attic 2", "0"))

    def test_ask_refused(self):
        self.check(("ask where q 0", "no NoPost"), ("ask way shed hall", "no NoRoom"), ("ask lit 1000000001", "no BadNumber"),
                   ("ask lit 9999999999", "no BadNumber"), ("ask way hall attic -1000000001", "no BadNumber"),
                   ("post p hall 0", "done"), ("leave zoe", "done"), ("ask wheel", "no Bare"), ("ask where q 0", "no Bare"),
                   ("ask odd", "no line"), ("ask lit 10000000000", "no line"), ("ask lit", "no line"), ("ask", "no line"),
                   ("ask ", "no line"), ("ask  wheel", "no line"), ("ask wheel ", "no line"), ("askwheel", "no line"),
                   ("ask lit 01", "no line"), ("ask where P 0", "no line"), ("ask ask wheel", "no line"))

    def test_notes(self):
        self.check(("notes", "none"), ("watch w lit 0", "done"), ("watch v way hall attic", "done"), ("notes", "none"),
                   ("post p stair 0", "done"), ("notes", "9 w none > stair; 9 v 2 > none"), ("leave zoe", "done"),
                   ("notes", "9 w none > stair; 9 v 2 > none; 10 w stair > no Bare; 10 v none > no Bare"),
                   ("undo", "leave zoe"), ("notes", "9 w none > stair; 9 v 2 > none"), ("sight stair attic", "done"),
                   ("unwatch w", "done"), ("notes", "9 w none > stair; 9 v 2 > none; 10 w stair > stair attic"))

    def test_refusals(self):
        self.check(("room hall", "no Taken"), ("strike shed", "no NoRoom"), ("door hall hall", "no Loop"),
                   ("door stair hall", "no Taken"), ("wall hall attic", "no NoDoor"), ("curtain hall attic", "no NoSight"),
                   ("post p - 0", "no BadRound"), ("post p hall,attic 0", "no NotAWalk"), ("post p hall 1", "no BadNumber"),
                   ("post p shed 0", "no NoRoom"), ("call p", "no NoPost"), ("delay p 0", "no NoPost"),
                   ("leave abe", "no NoWatcher"), ("lamp abe 9", "no NoWatcher"), ("watcher abe 2", "no BadNumber"),
                   ("watcher zoe 2", "no Taken"), ("rule yes 5", "no BadNumber"), ("unwatch w", "no NoWatch"))
        self.check(("post p hall,stair 0", "done"), ("strike stair", "no Leans"), ("wall stair hall", "no Leans"))
        for name in "abcde":
            self.check((f"room {name}", "done"))
        self.check(("room f", "no Full"))
        self.assertEqual(len(self.desk.book()), len(START) + 6)

    def test_no_line(self):
        ahead = shape_of(self.desk.book())
        for line in ("", " ", "undo ", " undo", "undo undo", "Undo", "redo 1", "notes ", "note", "done", "none", "help",
                     "room", "room  den", " room den", "room den ", "room den\n", "undo\n", "rooms den", "room Den",
                     "rule maybe 3", "rule yes 03", "post p hall, 0", "watch w", "watch w odd", "watch w wheel 3", "no",
                     "room ninesigns", "all_of", "scene", "ask\nwheel", *[f"room {name}" for name in BAD_NAMES]):
            self.check((line, "no line"))
        self.assertEqual(shape_of(self.desk.book()), ahead)


class Books(unittest.TestCase):
    def test_a_book_of_its_own(self):
        one, other, third = Desk(), Desk(None), Desk(book=None)
        self.assertIsInstance(one.book(), Book)
        self.assertIs(one.book(), one.book())
        one.say("room hall")
        self.assertEqual([len(desk.book()) for desk in (one, other, third)], [1, 0, 0])

    def test_of_that_very_book(self):
        for book in (Book(), book_of((("room", "hall"),))):
            desk = Desk(book)
            self.assertIs(desk.book(), book)
            self.assertIs(Desk(book=book).book(), book)
            self.assertEqual(desk.say(line="room den"), "done")
            self.assertEqual(book.house().rooms()[-1], "den")

    def test_two_desks_of_one_book_and_calls_between(self):
        book = Book()
        one, other = Desk(book), Desk(book)
        self.assertEqual(told(one, "room hall", "room den", "undo"), ["done", "done", "room den"])
        self.assertEqual(other.say("redo"), "room den")
        book.do(("watch", "w", ("lit", 0)))
        book.watcher("zoe", reach=1)
        self.assertEqual(one.say("post p hall 0"), "done")
        self.assertEqual(other.say("notes"), "5 w none > hall")
        self.assertEqual(book.undo(), ("post", "p", ("hall",), 0))
        self.assertEqual(told(other, "notes", "redo", "notes"), ["none", "post p hall 0", "5 w none > hall"])
        book.all_of([("call", "p"), ("strike", "hall")])
        self.assertEqual(told(one, "undo", "undo", "ask where p 7"), ["strike hall", "call p", "hall"])

    def test_a_deed_that_cannot_be_so_written_is_told_as_it_is(self):
        book = book_of((("watch", "w", ("where", "Hall", 10 ** 12)),))
        self.assertEqual(Desk(book).say("undo"), "watch w where Hall 1000000000000")


class ByChance(unittest.TestCase):
    def test_held_against_a_plain_reckoning(self):
        found = {}
        for seed in range(8):
            chance, desk, plain = Chance(seed), Desk(book_of(LIVELY)), PlainBook(LIVELY)
            for turn in range(120):
                word = chance.one_of(("deed",) * 6 + ("undo", "redo", "ask", "notes"))
                due = getattr(self, f"due_{word}")(chance, desk, plain)
                answer = desk.say(due[0])
                self.assertEqual(answer, due[1], due[0])
                found[answer.split(" ")[0]] = found.get(answer.split(" ")[0], 0) + 1
            self.assertEqual(shape_of(desk.book()), shape_due(plain))
        self.assertGreater(found["done"], 100)
        self.assertGreater(found["no"], 100)

    def due_deed(self, chance, desk, plain):
        deed = some_deed(chance, desk.book())
        line = deed_text(deed)
        if not is_line(line):
            return line, "no line"
        due = plain.refusal(deed)
        if due is not None:
            return line, f"no {due[0]}"
        plain.do(deed)
        return line, "done"

    def due_undo(self, chance, desk, plain):
        return "undo", deed_text(plain.undo()) if plain.deeds else "no Nothing"

    def due_redo(self, chance, desk, plain):
        return "redo", deed_text(plain.redo()) if plain.undone else "no Nothing"

    def due_ask(self, chance, desk, plain):
        asking = some_asking(chance)
        line = f"ask {asking_text(asking)}"
        return (line, "no line") if asking[0] == "odd" else (line, shown(come_to(plain.has(), asking)))

    def due_notes(self, chance, desk, plain):
        notes = [f"{deeds} {name} {shown(before)} > {shown(now)}" for deeds, name, before, now in plain.notes()]
        return "notes", "; ".join(notes) or "none"

    def test_refusals_of_each_kind_are_errors_words(self):
        words = {word for word in vars(errors) if word[0].isupper()}
        desk = Desk()
        for line in ("undo", "redo", "strike a", "call a", "leave a", "unwatch a"):
            answer = desk.say(line)
            self.assertTrue(answer.startswith("no ") and answer[3:] in words)


if __name__ == "__main__":
    unittest.main()
