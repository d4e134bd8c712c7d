"""What several tests use: a case that looks at errors closely, and values of every kind."""

import unittest

from uplines.sheets import Sheet


class Case(unittest.TestCase):
    def assert_same(self, found, wanted):
        """Equal, of the same kind, and so inside, too: True is not 1 and a list no tuple."""
        self.assertIs(type(found), type(wanted))
        self.assertEqual(found, wanted)
        self.assertEqual(repr(found), repr(wanted))

    def assert_error(self, kind, attributes, action, *passed, **named):
        """The action raises just this kind of error, with just these attributes."""
        with self.assertRaises(kind) as caught:
            action(*passed, **named)
        self.assertIs(type(caught.exception), kind)
        self.assertEqual(sorted(vars(caught.exception)), sorted(attributes))
        for name, value in attributes.items():
            self.assert_same(getattr(caught.exception, name), value)


def odd_values():
    """Values of every kind, none of which is a name, a list of names, a level or a line."""
    return [
        None, True, False, -1, 12, 10 ** 29, -(10 ** 29), 10 ** 30 - 1,
        "", "A", "aB", "a b", "a_", "a-b", "abcdefg", " a", "a\n", "(", "a,b",
        [None], ["A"], [["a"]], [[]], [{}], (None,), (("a",),), ((), ()),
        {}, {"a": 1}, {0: "a"}, {True: None}, [True, False], (0, 1), (True, 1),
        Sheet([["zz"]]), [Sheet([["zz"]])], (Sheet([["zz"]]), "a"), b"a", deep(40),
    ]


def deep(depth):
    value = []
    for _ in range(depth - 1):
        value = [value]
    return value


def odd_lines():
    """Values that are no line of any sheet in which a, b, c, d, e are nodes and a to d is a line."""
    return odd_values() + [
        (), ("a",), ("a", "d", "e"), ["a", "d"], "ad", [("a", "d")], (("a", "d"),), {"a": "d"},
        ("a", None), (None, "d"), ("a", ["d"]), (["a"], "d"), ({}, {}), ("a", {}), ([], []),
        ("a", ("d",)), (("a",), "d"), (0, 1), (True, "d"), ("a", 1), ("a", "nope"), ("nope", "d"),
        ("A", "d"), ("a", "d\n"), (b"a", "d"), ("a", "a"), ("", ""),
    ]


def odd_pairs():
    """Values that are no pair of any sheet with a, b on level 0 and c, d on level 1."""
    return odd_values() + [
        (), ("a",), ("a", "b", "c"), ["a", "b"], "ab", [("a", "b")], (("a", "b"),), {"a": "b"}, {"a": 1, "b": 2},
        ("a", None), (None, "b"), ("a", ["b"]), (["a"], "b"), ({}, {}), ([], []), ("a", ("b",)), (("a",), "b"),
        (0, 1), (True, "b"), ("a", 1), ("a", "nope"), ("nope", "b"), ("A", "b"), ("a", "b\n"), (b"a", "b"),
        ("a", "a"), ("a", "c"), ("c", "b"), ("", ""), ("a", ("a", "c")), (("a", "c"), ("b", "d")),
    ]


def odd_counts():
    """Values that are no counts."""
    return [value for value in odd_values() if not (type(value) is int and value >= 0)] + ["1", [1], (0,), b"1"]


def odd_orders():
    """Values that are no order of a level with just a, b and c."""
    return odd_values() + [
        [], (), ["a"], ["a", "b"], ["a", "b", "b"], ["a", "b", "c", "a"], ["a", "b", "d"], ["a", "b", "c", "d"],
        "abc", {"a": 1, "b": 2, "c": 3}, [["a", "b", "c"]], (("a", "b", "c"),), [["a"], ["b"], ["c"]],
        ["a", "b", None], ["a", "b", 1], [True, "b", "c"], ["a", "b", ["c"]], ["a", "b", {}], [0, 1, 2],
        ["a", "b", "C"], ["a", "b", "c\n"], ["a", "b", b"c"], b"abc",
    ]


def odd_tellings():
    """Values that are no told orders of any sheet with just a and b on level 0, and c, d, e on level 1 of two."""
    good, other = ["a", "b"], ["e", "c", "d"]
    return [value for value in odd_values() if value != {}] + [
        [], (), [good], [good, other], (0, good), "ab", {2: good}, {-1: other}, {0: other}, {1: good}, {None: good},
        {True: other}, {False: good}, {0: good, True: other}, {False: good, 1: other}, {"0": good}, {(0,): good},
        {0: good, 1: other, 2: []}, {0: good, 1: None}, {0: None, 1: other}, {0: []}, {0: ["a"]}, {0: "ab"},
        {0: ["a", "a"]}, {0: ["a", "b", "b"]}, {0: {"a": 1, "b": 2}}, {0: [["a"], "b"]}, {0: ["a", None]},
        {0: [good]}, {1: ["c", "d", "f"]}, {1: "cde"}, {1: ["c", "d", 1]}, {0: True}, {0: 0}, {10 ** 29: good},
    ]


def odd_pair_lists():
    """Values that are no list of pairs of a sheet with a, b on level 0 and c, d on level 1, with the position told."""
    good = [("a", "b"), ("d", "c"), ("a", "b")]
    found = [(None, value) for value in odd_values() if not isinstance(value, (list, tuple))]
    found += [(None, value) for value in ["ab", {("a", "b"): True}, b"ab", {0: ("a", "b")}]]
    for at in range(4):
        found += [(at, good[:at] + [value] + good[at:]) for value in odd_pairs()]
        found += [(at, (*good[:at], value, None)) for value in odd_pairs()]
    return found + [(0, ("a", "b")), (0, ["ab"]), (1, [("a", "b"), ["a", "b"]])]


def grid(levels, nodes):
    """Levels of so many nodes each, named so that they come sorted."""
    return [[f"n{level:02d}x{node:02d}" for node in range(nodes)] for level in range(levels)]


def all_lines(levels):
    """All lines that can be between these levels."""
    return [(low, high) for lows, highs in zip(levels, levels[1:]) for low in lows for high in highs]


def full_sheet():
    """A sheet with as many levels, nodes on each and lines as can be."""
    levels = grid(12, 18)
    return Sheet(levels, all_lines(levels)[:200])
