"""Settings as strings: how they are written, and which line of a string cannot be read."""

import random
import re
import unittest

from lazytags.errors import NotASetting, Unreadable
from lazytags.settings import Setting
from lazytags.writing import read, written
from tests.makers import LAST, NEST, ODD, WRONG_THINGS, cycle, random_machine

ODDS = Setting(2, {"flip": (1, 0)}, {"odd": ODD}, True)
TEXT = "size 2\nturning\nmap flip 1 0\nask odd 0 0,1:0 1,0:1"
# One setting with lines of all kinds, several of some.
FULL = "size 2\nturning\nmap a 1 0\nmap flip 1 1\nask a 0 0,1:0 1,0:99\nask b 1 0,0:10 1,1:7\nask odd 0 0,0:0"
NUMBER = "(?:0|[1-9][0-9]*)"


def plain_written(setting):
    lines = [f"size {setting.size}"] + ["turning"] * setting.turning
    for name in sorted(setting.maps):
        lines.append(f"map {name} " + " ".join(map(str, setting.maps[name])))
    for name in sorted(setting.asks):
        start, steps, answers = setting.asks[name]
        states = [f"{','.join(map(str, line))}:{told}" for line, told in zip(steps, answers)]
        lines.append(f"ask {name} {start} " + " ".join(states))
    return "\n".join(lines)


def plain_read(text):
    """The number of the first line that cannot stand where it does, or None."""
    lines = text.split("\n")
    if not re.fullmatch("size [1-4]", lines[0], re.ASCII):
        return 1
    size = int(lines[0][5:])
    last = (0, "")
    for number, line in enumerate(lines[1:], start=2):
        rank = rank_of(line, size)
        # Turning stands once, ahead of the maps, and these ahead of the asks; names of one kind ascend.
        if rank is None or rank <= last:
            return number
        last = rank
    return None


def rank_of(line, size):
    """The kind and the name of a line other than the first, or None if no setting has it."""
    if line == "turning":
        return (1, "")
    form = re.fullmatch(f"map ([a-z]{{1,8}})((?: {NUMBER})+)", line, re.ASCII)
    if form:
        values = [int(word) for word in form[2].split()]
        return (2, form[1]) if form[1] != "turn" and len(values) == size and max(values) < size else None
    state = f" {NUMBER}(?:,{NUMBER})*:{NUMBER}"
    form = re.fullmatch(f"ask ([a-z]{{1,8}}) ({NUMBER})((?:{state})+)", line, re.ASCII)
    if not form or form[1] == "turn":
        return None
    states = form[3].split()
    for each in states:
        steps, told = each.split(":")
        numbers = [int(word) for word in steps.split(",")]
        if len(numbers) != size or max(numbers) >= len(states) or int(told) > 99:
            return None
    return (3, form[1]) if int(form[2]) < len(states) else None


def some_setting(rng):
    size = rng.randint(1, 4)
    names = ["a", "ab", "b", "odd", "flip", "size", "map", "ask", "turnin", "turning", "zzzzzzzz", "x", "tur"]
    maps = {name: tuple(rng.randrange(size) for _ in range(size)) for name in rng.sample(names, rng.randint(0, 4))}
    asks = {
        name: random_machine(rng, rng.choice([1, 2, 3, 6, 12]), size, 100) for name in rng.sample(names, rng.randint(0, 4))
    }
    return Setting(size, maps, asks, rng.random() < 0.5)


class TestWritten(unittest.TestCase):
    def test_by_hand(self):
        self.assertEqual(written(Setting(1)), "size 1")
        self.assertEqual(written(Setting(4, turning=True)), "size 4\nturning")
        self.assertEqual(written(ODDS), TEXT)
        self.assertEqual(written(setting=Setting(2, {"flip": (1, 0)}, {"odd": ODD})), TEXT.replace("turning\n", ""))
        setting = Setting(4, {"b": (3, 2, 1, 0), "a": (0, 0, 0, 3)}, {"b": cycle(2, 4), "a": (0, ((0, 0, 0, 0),), (99,))})
        self.assertEqual(
            written(setting), "size 4\nmap a 0 0 0 3\nmap b 3 2 1 0\nask a 0 0,0,0,0:99\nask b 0 1,1,1,1:0 0,0,0,0:1"
        )

    def test_machines_are_written_as_they_are(self):
        # Neither are they made the least ones, nor are states left out that are not reached.
        setting = Setting(1, None, {"a": (2, ((0,), (0,), (2,)), (5, 5, 5))})
        self.assertEqual(written(setting), "size 1\nask a 2 0:5 0:5 2:5")
        self.assertEqual(read(written(setting)).asks, setting.asks)

    def test_the_order_of_the_names(self):
        one = Setting(2, {"b": (0, 0), "a": (1, 1), "ab": (1, 0)}, {"y": ODD, "x": LAST})
        two = Setting(2, {"ab": (1, 0), "a": (1, 1), "b": (0, 0)}, {"x": LAST, "y": ODD})
        self.assertEqual(written(one), written(two))
        self.assertEqual([line[:6] for line in written(one).split("\n")], ["size 2", "map a ", "map ab", "map b ", "ask x ", "ask y "])

    def test_the_longest_numbers(self):
        for states, size in [(30, 3), (30, 1), (6, 4), (300, 2)]:
            machine = (states - 1, ((states - 1,) * size,) * states, (99,) * states)
            setting = Setting(size, {"zzzzzzzz": (size - 1,) * size}, {name * 8: machine for name in "abcd"}, True)
            self.assertEqual(written(setting), plain_written(setting))
            self.assertEqual(read(written(setting)), setting)

    def test_many_settings_are_written_and_read(self):
        rng = random.Random(31)
        for _ in range(400):
            setting = some_setting(rng)
            text = written(setting)
            self.assertEqual(text, plain_written(setting))
            told = read(text=text)
            self.assertEqual([type(told), told], [Setting, setting])
            self.assertEqual(written(told), text)
            lines = text.split("\n")
            # Each beginning is written of a setting, too.
            for many in range(1, len(lines)):
                self.assertEqual(written(read("\n".join(lines[:many]))), "\n".join(lines[:many]))

    def test_errors(self):
        for thing in [thing for thing in WRONG_THINGS if not isinstance(thing, Setting)] + ["size 2", TEXT]:
            with self.assertRaises(NotASetting) as caught:
                written(thing)
            self.assertEqual(caught.exception.thing, thing)


class TestRead(unittest.TestCase):
    def unreadable(self, text, line):
        with self.assertRaises(Unreadable, msg=text) as caught:
            read(text)
        self.assertEqual([type(caught.exception.line), caught.exception.line], [int, line], text)

    def test_by_hand(self):
        self.assertEqual(read("size 3"), Setting(3))
        self.assertEqual(read("size 1\nturning"), Setting(1, turning=True))
        self.assertEqual(read(TEXT), ODDS)
        self.assertEqual(read("size 1\nask a 0 0:0\nask b 1 1:99 0:0").asks, {
            "a": (0, ((0,),), (0,)), "b": (1, ((1,), (0,)), (99, 0))
        })
        self.assertEqual(read("size 2\nturning\nmap turning 0 0").maps, {"turning": (0, 0)})

    def test_things_that_are_no_strings(self):
        for thing in [thing for thing in WRONG_THINGS if not isinstance(thing, str)] + [ODDS, (TEXT,), [TEXT], {"size": 2}]:
            self.unreadable(thing, 0)

    def test_the_first_line(self):
        for line in [
            "", "size", "size ", "size 0", "size 5", "size 02", "size 2 ", " size 2", "size  2", "Size 2", "size 22", "size 2\r",
            "size -1", "size +2", "size 2.0", "size \u0662", "size \u00b2", "size two", "2", "turning", "map a 0", "size\t2",
            "size 2 turning", "size 1,", "\u200bsize 2", "a", "siz 2",
        ]:
            self.unreadable(line, 1)
            self.unreadable(line + "\nmap a 1 0", 1)
        self.unreadable("\nsize 2", 1)
        self.unreadable("\n", 1)

    def test_the_other_lines(self):
        wrong = [
            "", " ", "size 2", "size 3", "turning ", " turning", "Turning", "turn", "map", "map ", "map a", "map a ", "map a 1",
            "map a 1 0 ", "map a 1 0 1", "map a  1 0", "map  a 1 0", " map a 1 0", "map a 1 2", "map a 01 0", "map a -0 1",
            "map a +1 0", "map a 1,0", "map A 1 0", "map turn 1 0", "map abcdefghi 1 0", "map a1 1 0", "map 1 0", "map \u00e4 1 0",
            "map a \u0661 0", "map a \u00b9 0", "map a 1\t0", "map a 1 0\r", "map a 1 x", "map a 1 10", "Map a 1 0", "mapa 1 0",
            "ask", "ask ", "ask a", "ask a ", "ask a 0", "ask a 0 ", "ask a 0 0,0", "ask a 0 0,0:", "ask a 0 0,0:0 ", "ask a 0 :0",
            "ask a 0 0,0:100", "ask a 0 0,0:00", "ask a 0 0,0:01", "ask a 0 0,0:-1", "ask a 1 0,0:0", "ask a 00 0,0:0",
            "ask a 0 0,1:0", "ask a 0 0:0", "ask a 0 0,0,0:0", "ask a 0 0 0:0", "ask a 0  0,0:0", "ask  a 0 0,0:0", "ask a 0 0,0:0:0",
            "ask a 0 0,0,:0", "ask a 0 ,0:0", "ask a 0 0, 0:0", "ask a 0 0,0 :0", "ask a 0 0,0: 0", "ask A 0 0,0:0", "ask turn 0 0,0:0",
            "ask a 0,0:0", "ask a -0 0,0:0", "ask a 0 0;0:0", "ask a 0 0,0:\u0661", "ask a \u0660 0,0:0", "ask a 0 0,\uff10:0",
            "ask a 0 0,0:0  0,0:0", "ask a 0 1,2:0 0,0:0", "ask a 2 0,0:0 0,0:0", "deed a 1 0", "a", "0", "size 2\rturning",
            "ask a 0 0,0:0_0", "map a 1_0 0", "ask a 0 0,0:1e1", "map a " + "0" * 250, "ask a 0 0,0:" + "9" * 280,
        ]
        for line in wrong:
            self.unreadable("size 2\n" + line, 2)
            self.unreadable("size 2\nturning\n" + line, 3)
            self.unreadable("size 2\nturning\nmap aa 1 0\n" + line + "\nask odd 0 0,0:0", 4)
            self.unreadable("size 2\nmap aa 1 0\nask aa 0 0,0:0\n" + line + "\nanything", 4)
            self.unreadable("size 2\nturning\n" + line + "\n" + line, 3)

    def test_lines_at_other_places(self):
        lines = FULL.split("\n")
        self.assertEqual(written(read(FULL)), FULL)
        for at in range(len(lines)):
            for other in range(at + 1, len(lines)):
                swapped = list(lines)
                swapped[at], swapped[other] = swapped[other], swapped[at]
                text = "\n".join(swapped)
                self.unreadable(text, plain_read(text))
            # Told twice: the second one cannot stand.
            self.unreadable("\n".join(lines[:at + 1] + lines[at:]), at + 2)
            self.unreadable("\n".join(lines + [lines[at]]), len(lines) + 1)
        self.unreadable("\n".join(lines[1:]), 1)
        for at in range(1, len(lines)):
            left = "\n".join(lines[:at] + lines[at + 1:])
            self.assertEqual(written(read(left)), left)
        self.unreadable("size 2\nmap a 1 0\nturning", 3)
        self.unreadable("size 2\nask a 0 0,0:0\nmap b 1 0", 3)
        self.unreadable("size 2\nask b 0 0,0:0\nask a 0 0,0:0", 3)
        self.unreadable("size 2\nmap b 1 0\nmap ab 1 0", 3)
        self.unreadable("size 2\nmap ab 1 0\nmap a 1 0", 3)
        self.unreadable("size 2\nmap a 1 0\nmap a 0 1", 3)
        self.assertEqual(len(read("size 2\nmap a 1 0\nmap ab 1 0\nmap b 0 0\nask a 0 0,0:0").maps), 3)

    def test_a_newline_at_the_end(self):
        lines = FULL.split("\n")
        for many in range(1, len(lines) + 1):
            self.unreadable("\n".join(lines[:many]) + "\n", many + 1)
            self.unreadable("\n".join(lines[:many]) + "\n\n", many + 1)
            self.unreadable("\n".join(lines[:many]) + "\r\n", many)
            for sign in ["\r", "\x0b", "\x0c", "\x1c", "\x85", "\u2028"]:
                self.unreadable("\n".join(lines[:many]) + sign + "turning", many)

    def test_noughts_ahead(self):
        for number in re.finditer("[0-9]+", FULL):
            line = FULL[:number.start()].count("\n") + 1
            for ahead in ["0", "00", "+", "-", " ", "\u0660"]:
                self.unreadable(FULL[:number.start()] + ahead + FULL[number.start():], line)

    def test_bent_strings(self):
        rng = random.Random(32)
        seen = {True: 0, False: 0}
        signs = "0123456789abmtuz ,:\n-+\r\t\u0661\u00b2\uff11A"
        for text in [FULL] * 5 + [written(some_setting(rng)) for _ in range(60)]:
            for _ in range(120):
                bent = self.bend(rng, text, signs)
                line = plain_read(bent)
                seen[line is None] += 1
                if line is None:
                    self.assertEqual(written(read(bent)), bent)
                else:
                    self.unreadable(bent, line)
        self.assertTrue(min(seen.values()) > 500, seen)

    def bend(self, rng, text, signs):
        at = rng.randrange(len(text))
        kind = rng.randrange(5)
        if kind == 0:
            return text[:at] + text[at + 1:]
        if kind == 1:
            return text[:at] + rng.choice(signs) + text[at:]
        if kind == 2:
            return text[:at] + rng.choice(signs) + text[at + 1:]
        if kind == 3:
            return text[:at] + text[at:at + 2][::-1] + text[at + 2:]
        lines = text.split("\n")
        one, two = rng.randrange(len(lines)), rng.randrange(len(lines))
        lines[one], lines[two] = lines[two], rng.choice([lines[one], lines[two]])
        return "\n".join(lines)

    def test_each_sign_left_out_doubled_and_exchanged(self):
        for at in range(len(FULL)):
            for bent in [
                FULL[:at] + FULL[at + 1:], FULL[:at] + FULL[at] + FULL[at:], FULL[:at] + "1" + FULL[at + 1:],
                FULL[:at] + "x" + FULL[at + 1:], FULL[:at] + " " + FULL[at:], FULL[:at] + "\n" + FULL[at:], FULL[:at],
            ]:
                line = plain_read(bent)
                if line is None:
                    self.assertEqual(written(read(bent)), bent)
                else:
                    self.unreadable(bent, line)

    def test_20_lines_of_300_characters(self):
        line = "ask {} 0 " + " ".join(["11,11:10"] * 32)
        text = "\n".join(["size 2"] + [line.format(letter) for letter in "abcdefghijklmnopqrs"])
        self.assertEqual(text.count("\n") + 1, 20)
        self.assertTrue(290 < max(len(line) for line in text.split("\n")) <= 300)
        self.assertEqual(len(read(text).asks), 19)
        self.assertEqual(written(read(text)), text)


if __name__ == "__main__":
    unittest.main()
