import random
import re
import unittest

from helper import BIG, chance_plan, chance_works, small_works, soon
from stintwise.errors import NoText, StintError, Wrong
from stintwise.machines import Machine
from stintwise.stores import Store
from stintwise.texts import read_plan, read_works, show_plan, show_works
from stintwise.works import Works

NUMBER = "(?:0|[1-9][0-9]{0,19})"
HOUR = re.compile("(?:(?:%s|-) )*@%s" % (NUMBER, NUMBER))
MACHINE = re.compile("%s(?: %s){5}(?: %s:%s)*" % (NUMBER, NUMBER, NUMBER, NUMBER))
STORE = re.compile("none|store(?: %s){5}" % NUMBER)
LACK = re.compile("lack %s" % NUMBER)

GREATEST = 10 ** 20 - 1
SIGNS = "0159 -;@:.,+_anskl~"


def slow_plan(line):
    """The plan of a line, or None where it isn't one, by patterns."""
    if line == "none":
        return []
    parts = line.split("; ")
    if not all(HOUR.fullmatch(part) for part in parts) or len({part.count(" ") for part in parts}) != 1:
        return None
    plan = []
    for part in parts:
        words = part[:part.index("@")].split()
        plan.append((tuple(int(word != "-") for word in words),
                     tuple(0 if word == "-" else int(word) for word in words), int(part[part.index("@") + 1:])))
    return plan


def values_of(works):
    """All that makes works what they are."""
    machines = [(each.up, each.down, each.begin, each.run, each.rest, each.least, each.pieces)
                for each in works.machines]
    store = works.store and (works.store.cap, works.store.into, works.store.out, works.store.takes, works.store.gives)
    return machines, store, works.lack


def slow_works(line):
    """The values of the works of a line, or None where it isn't one, by patterns."""
    parts = line.split("; ")
    if len(parts) < 2 or not LACK.fullmatch(parts[-1]) or not STORE.fullmatch(parts[-2]):
        return None
    if not all(MACHINE.fullmatch(part) for part in parts[:-2]):
        return None
    try:
        machines = []
        for part in parts[:-2]:
            numbers = [int(word) for word in part.split() if ":" not in word]
            pieces = [tuple(int(each) for each in word.split(":")) for word in part.split() if ":" in word]
            machines.append(Machine(*numbers, pieces))
        store = None if parts[-2] == "none" else Store(*[int(word) for word in parts[-2].split()[1:]])
        return values_of(Works(machines, store, int(parts[-1].split()[1])))
    except Wrong:
        return None


def one_sign_other(line, signs=SIGNS):
    """All lines that differ from the line by one sign: left out, put in, or another one."""
    for at in range(len(line) + 1):
        for sign in signs:
            yield line[:at] + sign + line[at:]
            yield line[:at] + sign + line[at + 1:]
        yield line[:at] + line[at + 1:]


class Plans(unittest.TestCase):

    def there_and_back(self, plan, line):
        kept = list(plan)
        self.assertEqual(show_plan(plan), line)
        self.assertEqual(plan, kept)
        told = read_plan(line)
        self.assertEqual(told, plan)
        self.assertIsInstance(told, list)
        for planned in told:
            self.assertIsInstance(planned, tuple)
            self.assertTrue(all(isinstance(part, tuple) for part in planned[:2]))

    def refused(self, line):
        with self.assertRaises(NoText, msg=line) as taken:
            read_plan(line)
        self.assertIsInstance(taken.exception, StintError)

    def test_as_in_the_document(self):
        self.there_and_back([((1, 0, 1), (12, 0, 5), 3), ((1, 0, 1), (0, 0, 7), 2)], "12 - 5 @3; 0 - 7 @2")
        self.there_and_back([], "none")
        self.there_and_back([((), (), 0)], "@0")

    def test_edges(self):
        self.there_and_back([((), (), 0), ((), (), 8), ((), (), 3)], "@0; @8; @3")
        self.there_and_back([((0,), (0,), 0)], "- @0")
        self.there_and_back([((1,), (0,), 0)], "0 @0")
        self.there_and_back([((1,), (10,), 10)], "10 @10")
        self.there_and_back([((0, 0), (0, 0), 1), ((1, 1), (0, 0), 1)], "- - @1; 0 0 @1")
        self.there_and_back([((1, 0), (GREATEST, 0), GREATEST)], "%d - @%d" % (GREATEST, GREATEST))
        self.there_and_back([((1,), (10 ** 19,), 0)], "10000000000000000000 @0")
        self.there_and_back([((1,) * 6, tuple(range(6)), 0)], "0 1 2 3 4 5 @0")

    def test_by_chance(self):
        chance = random.Random(101)
        for works, position in small_works() + [chance_works(chance, 3) for time in range(40)]:
            for hours in [0, 1, 3, 48]:
                plan = chance_plan(chance, works, position, hours)
                line = show_plan(plan)
                self.assertEqual(slow_plan(line), plan)
                self.there_and_back(plan, line)

    def test_nothing_is_asked_of_how_many_there_are(self):
        with soon(10):
            line = "; ".join([" ".join(["3 -"] * 20) + " @77"] * 300)
            self.there_and_back([((1, 0) * 20, (3, 0) * 20, 77)] * 300, line)

    def test_one_sign_other(self):
        lines = {"none", "@0", "- @0", "0 @10", "12 - 5 @3; 0 - 7 @2", "@1; @20; @3", "105 @0; - @11"}
        for line in sorted(lines):
            for other in one_sign_other(line):
                right = slow_plan(other)
                if right is None:
                    self.refused(other)
                else:
                    self.assertEqual(read_plan(other), right)
                    self.assertEqual(show_plan(right), other)

    def test_wrong_lines(self):
        for line in ["", " ", ";", "; ", "@", "-", "0", "12", "None", "NONE", "none ", " none", "none; none",
                     "none; @0", "@0; none", "nonenone", "12 - 5", "12 - 5 3", "@3 12 - 5", "12 - 5 @ 3", "12 -5 @3",
                     "12  - 5 @3", " 12 - 5 @3", "12 - 5 @3 ", "12 - 5@3", "12 - 5 @@3", "12 - 5 @3@3", "12 - 5 @3 @3",
                     "12 - 5 @3;0 - 7 @2", "12 - 5 @3;  0 - 7 @2", "12 - 5 @3 ; 0 - 7 @2", "12 - 5 @3; ",
                     "; 12 - 5 @3", "12 - 5 @3; ; 0 - 7 @2", "12 - 5 @3, 0 - 7 @2", "012 @3", "12 @03", "00 @0",
                     "0 @00", "+1 @0", "-1 @0", "1 @-1", "1 @-", "1 @+1", "1_0 @0", "1.0 @0", "1e3 @0", "x @0",
                     "-- @0", "1 @x", "1:2 @0", "0x1 @0", "1,000 @0", "store @0", "lack 3"]:
            self.assertIsNone(slow_plan(line), line)
            self.refused(line)

    def test_hours_of_unlike_numbers_of_machines(self):
        for line in ["@0; - @0", "- @0; @0", "1 @0; 1 2 @0", "1 2 @0; 1 @0", "1 2 @0; 1 2 @0; 1 @0",
                     "1 2 @0; 1 2 - @0; 1 2 @0"]:
            self.refused(line)
        self.there_and_back([((1, 0), (1, 0), 0), ((0, 1), (0, 2), 0)], "1 - @0; - 2 @0")

    def test_more_than_twenty_figures(self):
        for figures in [21, 22, 70, 5000]:
            number = "1" * figures
            for line in [number + " @0", "1 @" + number, "@" + number, "1 @0; " + number + " @0", "- " + number + " @0",
                         "0" * figures + " @0"]:
                with soon(10):
                    self.refused(line)
        self.assertEqual(read_plan("1" * 20 + " @" + "9" * 20), [((1,), (int("1" * 20),), GREATEST)])

    def test_signs_of_the_edges(self):
        for sign in "!~ {}[]()'\"\\/|?*&^#$=<>`":
            self.refused("1%s @0" % sign)
            self.refused("1 @0" + sign)

    def test_own_lists(self):
        told = read_plan("12 - 5 @3; 0 - 7 @2")
        told.append("changed")
        self.assertEqual(len(read_plan("12 - 5 @3; 0 - 7 @2")), 2)
        nothing = read_plan("none")
        nothing.append("changed")
        self.assertEqual(read_plan("none"), [])


class WorksLines(unittest.TestCase):

    def there_and_back(self, works, line):
        kept = values_of(works)
        self.assertEqual(show_works(works), line)
        self.assertEqual(values_of(works), kept)
        told = read_works(line)
        self.assertIsInstance(told, Works)
        self.assertEqual(values_of(told), kept)
        self.assertEqual(show_works(told), line)

    def refused(self, line):
        with self.assertRaises(NoText, msg=line):
            read_works(line)

    def test_as_in_the_document(self):
        works = Works([Machine(2, 3, 5, 1, 0, 4, [(3, 2), (2, 7)]), Machine(1, 1, 0, 0, 0, 0, [])],
                      Store(3, 1, 1, 4, 3), 90)
        self.there_and_back(works, "2 3 5 1 0 4 3:2 2:7; 1 1 0 0 0 0; store 3 1 1 4 3; lack 90")
        self.there_and_back(Works([], None, 90), "none; lack 90")

    def test_edges(self):
        bare = Machine(1, 1, 0, 0, 0, 0, [])
        full = Machine(12, 12, BIG, BIG, BIG, BIG, [(1, 0), (BIG, 0), (7, BIG), (BIG, BIG)])
        self.there_and_back(Works([], Store(0, 0, 0, 0, 0), 0), "store 0 0 0 0 0; lack 0")
        self.there_and_back(Works([], Store(8, 8, 8, BIG, BIG), BIG), "store 8 8 8 %d %d; lack %d" % (BIG, BIG, BIG))
        self.there_and_back(Works([bare], None, 1), "1 1 0 0 0 0; none; lack 1")
        line = "12 12 {0} {0} {0} {0} 1:0 {0}:0 7:{0} {0}:{0}".replace("{0}", str(BIG))
        self.there_and_back(Works([full] * 6, None, BIG), "; ".join([line] * 6) + "; none; lack %d" % BIG)
        self.there_and_back(Works([full, bare] * 3, Store(1, 2, 3, 4, 5), 6),
                            "; ".join([line, "1 1 0 0 0 0"] * 3) + "; store 1 2 3 4 5; lack 6")
        for many in range(5):
            works = Works([Machine(1, 2, 3, 4, 5, 6, [(7, 8)] * many)], None, 9)
            self.there_and_back(works, "1 2 3 4 5 6" + " 7:8" * many + "; none; lack 9")

    def test_by_chance(self):
        chance = random.Random(102)
        for works, position in small_works() + [chance_works(chance, 6) for time in range(200)]:
            line = show_works(works)
            self.assertEqual(slow_works(line), values_of(works))
            self.there_and_back(works, line)

    def test_one_sign_other(self):
        told = {True: 0, False: 0}
        for line in ["none; lack 90", "store 8 1 0 4 3; lack 0", "2 3 5 1 0 4 3:2 2:7; none; lack 9",
                     "12 1 0 0 0 0; store 3 1 1 4 3; lack 90", "2 3 5 1 0 4 3:2; 1 12 0 0 0 0 1:0; none; lack 1",
                     "1 1 0 0 0 0; " * 6 + "none; lack 5",
                     "1 2 3 4 5 6 7:8 7:8 7:8 9:9; store 1 2 3 4 5; lack 1000000000000"]:
            for other in one_sign_other(line):
                right = slow_works(other)
                told[right is not None] += 1
                if right is None:
                    self.refused(other)
                else:
                    self.assertEqual(values_of(read_works(other)), right)
        self.assertGreater(min(told.values()), 200)

    def test_a_word_or_a_part_other(self):
        line = "2 3 5 1 0 4 3:2 2:7; 1 1 0 0 0 0; store 3 1 1 4 3; lack 90"
        words = line.split(" ")
        for at in range(len(words)):
            self.check(" ".join(words[:at] + words[at + 1:]))
            self.check(" ".join(words[:at + 1] + words[at:]))
            for word in ["", "x", "store", "lack", "none", "3:2", "0", "01", "-1", ":", "3:", ":2", "3:2:1", "0:2",
                         "9;", "none;", "13", "store;", str(BIG), str(BIG + 1)]:
                self.check(" ".join(words[:at] + [word] + words[at + 1:]))
        parts = line.split("; ")
        for at in range(len(parts)):
            self.check("; ".join(parts[:at] + parts[at + 1:]))
            self.check("; ".join(parts[:at + 1] + parts[at:]))
            for part in ["", "none", "lack 90", "store 3 1 1 4 3", "1 1 0 0 0 0", "store", "lack"]:
                self.check("; ".join(parts[:at] + [part] + parts[at + 1:]))
                self.check("; ".join(parts[:at] + [part] + parts[at:]))

    def check(self, line):
        """A line is read just where the patterns let it by."""
        right = slow_works(line)
        if right is None:
            self.refused(line)
        else:
            self.assertEqual(values_of(read_works(line)), right)

    def test_wrong_lines(self):
        for line in ["", " ", "; ", "none", "lack 90", "none;lack 90", "none;  lack 90", "none ; lack 90",
                     "none, lack 90", "none; lack", "none; lack ", "none; lack  90", "none; lack 90 ",
                     " none; lack 90", "none; 90", "none; lack 90; ", "; none; lack 90", "lack 90; none",
                     "none; none; lack 90", "none; lack 090", "none; lack -1", "none; lack +1", "none; Lack 90",
                     "None; lack 90", "none; lack 9 0", "none; lack 90:1", "store; lack 90", "store 1 2 3 4; lack 90",
                     "store 1 2 3 4 5 6; lack 90", "store none; lack 90", "stores 1 2 3 4 5; lack 90",
                     "1 2 3 4 5; lack 90", "1 1 0 0 0 0; lack 90", "1 1 0 0 0; none; lack 90",
                     "1 1 0 0 0 0 0; none; lack 90", "1 1 0 0 0 0 none; none; lack 90", "1 1 0 0 0 0 ; none; lack 90",
                     "1 1 0 0 0 0 1:2 ; none; lack 90", "1 1 0 0 0 1:2 0; none; lack 90",
                     "1 1 0 0 0 0 1: 2; none; lack 90", "1 1 0 0 0 0 (1, 2); none; lack 90",
                     "1 1 0 0 0 0 1:2:3; none; lack 90", "1 1 0 0 0 0 1:02; none; lack 90",
                     "1 1 0 0 0 0 01:2; none; lack 90", "store 1 2 3 4 5; 1 1 0 0 0 0; lack 90"]:
            self.assertIsNone(slow_works(line), line)
            self.refused(line)

    def test_what_would_be_refused(self):
        good = "1 1 0 0 0 0; store 1 1 1 1 1; lack 1"
        read_works(good)
        for machine in ["0 1 0 0 0 0", "13 1 0 0 0 0", "1 0 0 0 0 0", "1 13 0 0 0 0", "1 1 %d 0 0 0" % (BIG + 1),
                        "1 1 0 %d 0 0" % (BIG + 1), "1 1 0 0 %d 0" % (BIG + 1), "1 1 0 0 0 %d" % (BIG + 1),
                        "1 1 0 0 0 0 0:5", "1 1 0 0 0 0 %d:5" % (BIG + 1), "1 1 0 0 0 0 1:%d" % (BIG + 1),
                        "1 1 0 0 0 0 1:5 1:4", "1 1 0 0 0 0" + " 1:5" * 5]:
            self.refused(machine + "; store 1 1 1 1 1; lack 1")
            self.refused(machine + "; none; lack 1")
        for store in ["9 1 1 1 1", "1 9 1 1 1", "1 1 9 1 1", "1 1 1 %d 1" % (BIG + 1), "1 1 1 1 %d" % (BIG + 1)]:
            self.refused("1 1 0 0 0 0; store " + store + "; lack 1")
        self.refused("none; lack %d" % (BIG + 1))
        self.refused("1 1 0 0 0 0; " * 7 + "none; lack 1")
        self.assertEqual(len(read_works("1 1 0 0 0 0; " * 6 + "none; lack 1").machines), 6)

    def test_numbers_of_many_figures(self):
        for figures in [13, 20, 21, 70, 5000]:
            number = "1" * figures
            for line in ["none; lack " + number, "store 1 1 1 1 " + number + "; lack 1",
                         number + " 1 0 0 0 0; none; lack 1", "1 1 0 0 0 0 1:" + number + "; none; lack 1"]:
                with soon(10):
                    self.refused(line)
        self.refused("none; lack " + "0" * 21)

    def test_nothing_is_shared(self):
        line = "2 3 5 1 0 4 3:2 2:7; 2 3 5 1 0 4 3:2 2:7; none; lack 90"
        one, other = read_works(line), read_works(line)
        one.machines.pop()
        one.machines[0].pieces.append("changed")
        self.assertEqual(show_works(other), line)
        self.assertEqual(show_works(read_works(line)), line)


if __name__ == "__main__":
    unittest.main()
