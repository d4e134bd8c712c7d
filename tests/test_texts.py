"""Texts of sheets and drawings, and how they are read."""

import itertools
import re
import unittest

from checking import Case, all_lines, full_sheet, grid, odd_values
from plainly import every_choice, plain_text, samples
from uplines.drawings import Drawing
from uplines.errors import InvalidText
from uplines.sheets import Sheet
from uplines.texts import drawing_text, read_drawing, read_sheet, text_of

LOWER = "level a b\nlevel c d\nline a c\nline a d\nline b d\n"
NAME = re.compile("[a-z0-9]{1,6}")


def lower():
    return Sheet([["a", "b"], ["c", "d"]], [("a", "c"), ("a", "d"), ("b", "d")])


def plain_drawing_text(sheet, orders):
    return plain_text(sheet) + "".join(" ".join(["order"] + list(order)) + "\n" for order in orders)


class Wanted:
    """Reads a text line by line, and tells the number of the first one that cannot stand there."""

    def __init__(self, is_drawing):
        self.is_drawing = is_drawing
        self.levels = []
        self.lines = []
        self.orders = []

    def takes(self, line):
        words = line.split(" ")
        if not all(NAME.fullmatch(word) for word in words):
            return False
        word, rest = words[0], words[1:]
        if word == "level" and not self.lines and not self.orders:
            return self.takes_level(rest)
        if word == "line" and not self.orders and len(rest) == 2:
            return self.takes_line(tuple(rest))
        if word == "order" and self.is_drawing and len(self.orders) < len(self.levels):
            self.orders.append(rest)
            return sorted(rest) == self.levels[len(self.orders) - 1]
        return False

    def takes_level(self, names):
        ahead = [name for level in self.levels for name in level] + names
        self.levels.append(names)
        return (len(self.levels) <= 12 and len(names) <= 18 and sorted(names) == names
                and len(set(ahead)) == len(ahead))

    def takes_line(self, line):
        fits = [at for at in range(len(self.levels) - 1)
                if line[0] in self.levels[at] and line[1] in self.levels[at + 1]]
        fits = fits and len(self.lines) < 200 and all(line > other for other in self.lines)
        self.lines.append(line)
        return bool(fits)

    def is_whole(self):
        return len(self.levels) > 0 and (not self.is_drawing or len(self.orders) == len(self.levels))


def first_wrong(text, is_drawing):
    """The number of the first line that cannot stand there, None if the text is right."""
    wanted = Wanted(is_drawing)
    *lines, last = text.split("\n")
    for number, line in enumerate(lines, 1):
        if not wanted.takes(line):
            return number
    if last != "" or not wanted.is_whole():
        return len(lines) + 1
    return None


def changed_texts(text):
    """Texts that differ in one line, one word or one sign."""
    lines = text.splitlines(keepends=True)
    words = ["level", "line", "order", "a", "zz", "", "A", "level a", "line a c", "abcdefg", "0"]
    for at in range(len(lines)):
        ahead, behind = lines[:at], lines[at + 1:]
        for told in (
            [], [lines[at]] * 2, [" " + lines[at]], [lines[at][:-1] + " \n"], [lines[at].replace(" ", "  ")],
            ["\n", lines[at]], [lines[at], "\n"], [lines[at][:-1]], [lines[at].upper()], ["order\n", lines[at]],
            ["level\n", lines[at]], ["level zz\n", lines[at]], [" \n"], [lines[at].replace(" ", "_")],
        ):
            yield "".join([*ahead, *told, *behind])
        yield "".join([*ahead, *behind[:1], lines[at], *behind[1:]])
        parts = lines[at].split()
        for place, word in itertools.product(range(len(parts) + 1), words):
            yield "".join([*ahead, " ".join(parts[:place] + [word] + parts[place + 1:]) + "\n", *behind])
            yield "".join([*ahead, " ".join(parts[:place] + [word] + parts[place:]) + "\n", *behind])
        yield "".join([*ahead, " ".join(parts[:1] + parts[:0:-1]) + "\n", *behind])
    yield from [text[:-1], text + "\n", text + " ", "\n" + text, text + text, text[:-2], text + "line", text.strip()]


class SheetTests(Case):
    def test_ordinary(self):
        self.assert_same(text_of(lower()), LOWER)
        self.assert_same([read_sheet(LOWER), read_sheet(text=LOWER)], [lower(), lower()])
        self.assert_same(text_of(sheet=Sheet([["b", "a"], [], ["c"]])), "level a b\nlevel\nlevel c\n")
        self.assert_same([text_of(Sheet([[]])), read_sheet("level\n")], ["level\n", Sheet([[]])])
        self.assert_same(read_sheet("level\nlevel\nlevel 0 1 a\n"), Sheet([[], [], ["0", "1", "a"]]))

    def test_read_back(self):
        for sheet in [*samples(60), full_sheet(), Sheet(grid(12, 18))]:
            self.assert_same(text_of(sheet), plain_text(sheet))
            self.assert_same(read_sheet(text_of(sheet)), sheet)

    def test_no_string(self):
        for value in odd_values() + [LOWER.encode(), [LOWER], (LOWER,), {LOWER: 1}, lower(), 7]:
            if not isinstance(value, str):
                self.assert_error(InvalidText, {"line": 1}, read_sheet, value)
                self.assert_error(InvalidText, {"line": 1}, read_drawing, text=value)

    def test_wrong_lines(self):
        for text, line in [
            ("", 1), ("\n", 1), ("level", 1), ("level a", 1), ("level a\nlevel b", 2), ("a\n", 1), ("line a b\n", 1),
            ("level \n", 1), (" level\n", 1), ("level  a\n", 1), ("level b a\n", 1), ("level a a\n", 1),
            ("level a\nlevel a\n", 2), ("level a\n\nlevel b\n", 2), ("level A\n", 1), ("level abcdefg\n", 1),
            ("level a\nline a a\n", 2), ("level a\nlevel b\nline b a\n", 3), ("level a\nlevel b\nline a b", 3),
            ("level a\nlevel b\nline a b\nline a b\n", 4), ("level a\nlevel b\nline a b\nlevel c\n", 4),
            ("level a b\nlevel c\nline b c\nline a c\n", 4), ("level a\nlevel b\nline a\n", 3),
            ("level a\nlevel b\nline a b b\n", 3), ("level a\nlevel b\nlevel c\nline a c\n", 4),
            ("level a\nlevel b\nline a z\n", 3), ("level a\norder a\n", 2), ("level a\n ", 2),
            ("level a\nlevel\n\n", 3), ("level a\nlevel a\nline a b\n", 2), ("levels a\n", 1),
            ("Level a\n", 1), ("level a,b\n", 1),
        ]:
            self.assert_error(InvalidText, {"line": line}, read_sheet, text)
            self.assertEqual(first_wrong(text, False), line)

    def test_changed_in_one_place(self):
        seen = set()
        for sheet in [lower(), Sheet([["a"]]), Sheet([["a"], [], ["b", "c"], ["d"]], [("b", "d")]), Sheet([[], []])]:
            for text in changed_texts(text_of(sheet)):
                line = first_wrong(text, False)
                seen.add(line)
                if line is None:
                    self.assertEqual(plain_text(read_sheet(text)), text)
                else:
                    self.assert_error(InvalidText, {"line": line}, read_sheet, text)
        self.assertLessEqual({None, 1, 2, 3, 4, 5, 6}, seen)

    def test_each_beginning(self):
        for at in range(len(LOWER)):
            line = first_wrong(LOWER[:at], False)
            if line is not None:
                self.assert_error(InvalidText, {"line": line}, read_sheet, LOWER[:at])
            else:
                self.assertTrue(LOWER[:at].endswith("\n"))
                self.assertEqual(text_of(read_sheet(LOWER[:at])), LOWER[:at])


class LimitTests(Case):
    def test_levels(self):
        self.assert_same(len(read_sheet("level\n" * 12)), 12)
        self.assert_error(InvalidText, {"line": 13}, read_sheet, "level\n" * 13)
        self.assert_error(InvalidText, {"line": 13}, read_drawing, "level\n" * 13 + "order\n" * 13)
        self.assert_same(read_drawing("level\n" * 12 + "order\n" * 12), Drawing.plain(Sheet([[]] * 12)))

    def test_nodes(self):
        names = grid(2, 19)
        text = " ".join(["level", *names[0][:18]]) + "\n"
        self.assert_same(read_sheet(text), Sheet([names[0][:18]]))
        self.assert_error(InvalidText, {"line": 1}, read_sheet, " ".join(["level", *names[0]]) + "\n")
        self.assert_error(InvalidText, {"line": 2}, read_sheet, text + " ".join(["level", *names[1]]) + "\nline\n")

    def test_lines(self):
        levels = grid(2, 18)
        lines = sorted(all_lines(levels))
        text = "".join(" ".join(["level", *names]) + "\n" for names in levels)
        rows = [f"line {low} {high}\n" for low, high in lines]
        self.assert_same(read_sheet(text + "".join(rows[:200])), Sheet(levels, lines[:200]))
        self.assert_error(InvalidText, {"line": 203}, read_sheet, text + "".join(rows[:201]))
        self.assert_error(InvalidText, {"line": 203}, read_drawing, text + "".join(rows))
        orders = "".join(" ".join(["order", *names[::-1]]) + "\n" for names in levels)
        self.assert_same(read_drawing(text + "".join(rows[100:300]) + orders),
                         Drawing(Sheet(levels, lines[100:300]), [names[::-1] for names in levels]))


class DrawingTests(Case):
    def test_ordinary(self):
        drawing = Drawing(lower(), [["b", "a"], ["c", "d"]])
        self.assert_same(drawing_text(drawing), LOWER + "order b a\norder c d\n")
        self.assert_same(read_drawing(text=LOWER + "order b a\norder c d\n"), drawing)
        self.assert_same(drawing_text(drawing=Drawing.plain(Sheet([["a"], []]))), "level a\nlevel\norder a\norder\n")
        self.assert_same(read_drawing("level\norder\n"), Drawing.plain(Sheet([[]])))

    def test_read_back(self):
        for sheet in samples(20):
            for choice in every_choice(sheet)[::4]:
                text = drawing_text(Drawing(sheet, choice))
                self.assert_same(text, plain_drawing_text(sheet, choice))
                self.assert_same(read_drawing(text), Drawing(sheet, choice))
                self.assert_error(InvalidText, {"line": len(sheet) + len(sheet.lines()) + 1}, read_sheet, text)
        full = full_sheet()
        self.assert_same(read_drawing(drawing_text(Drawing.plain(full))), Drawing.plain(full))

    def test_wrong_lines(self):
        for text, line in [
            ("", 1), ("level\n", 2), ("level a\n", 2), ("level a\norder\n", 2), ("level a\norder b\n", 2),
            ("level a\norder a", 2), ("level a\norder a\norder a\n", 3), ("level a\norder a a\n", 2),
            ("level a\norder  a\n", 2), ("level a\norder a\n\n", 3), ("level a\nlevel b\norder a\n", 4),
            ("level a\nlevel b\norder b\norder a\n", 3), ("level a\nlevel b\norder a\nline a b\norder b\n", 4),
            ("order a\n", 1), ("level a\norder a\nlevel b\n", 3), ("level a\nlevel b\nline a b\norder a\norder c\n", 5),
            ("level a\norder a ", 2), ("level a\nlevel\norder a\norder \n", 4),
        ]:
            self.assert_error(InvalidText, {"line": line}, read_drawing, text)
            self.assertEqual(first_wrong(text, True), line)

    def test_changed_in_one_place(self):
        seen = set()
        for drawing in [Drawing(lower(), [["b", "a"], ["c", "d"]]), Drawing.plain(Sheet([[], ["a"]])),
                        Drawing(Sheet([["a"], ["b", "c"], ["d"]], [("b", "d")]), [["a"], ["c", "b"], ["d"]])]:
            for text in changed_texts(drawing_text(drawing)):
                line = first_wrong(text, True)
                seen.add(line)
                if line is None:
                    self.assertEqual(drawing_text(read_drawing(text)), text)
                else:
                    self.assert_error(InvalidText, {"line": line}, read_drawing, text)
        self.assertLessEqual({None, *range(1, 9)}, seen)

    def test_each_beginning(self):
        text = LOWER + "order b a\norder c d\n"
        for at in range(len(text)):
            self.assert_error(InvalidText, {"line": first_wrong(text[:at], True)}, read_drawing, text[:at])


if __name__ == "__main__":
    unittest.main()
