"""The errors: which there are, what they derive from, and what they hold."""

import unittest

from checking import Case, odd_values
from uplines import errors

FAMILIES = {
    "SheetError": (ValueError, {
        "InvalidName": ["value"], "InvalidLevel": ["value"], "InvalidNumber": ["value"],
        "InvalidPair": ["value"], "InvalidLine": ["value"], "InvalidOrder": ["value"],
        "InvalidOrders": ["value"], "InvalidDrawing": ["value"], "InvalidSheet": ["value"],
        "InvalidClaim": ["value"], "InvalidCommand": ["value"], "InvalidLevels": ["position"],
        "InvalidNodes": ["position"], "InvalidLines": ["position"], "InvalidPairs": ["position"],
        "InvalidWalk": ["position"], "InvalidText": ["line"],
    }),
    "MissingError": (LookupError, {"UnknownNode": ["value"], "UnknownLine": ["value"]}),
    "StateError": (RuntimeError, {
        "NameTaken": ["value"], "NothingClean": [], "Refused": ["value"], "OtherSheets": ["one", "other"],
        "OtherLevels": ["one", "other"], "NotTrue": [], "NothingToUndo": [], "CommandFailed": ["position"],
    }),
    "LimitError": (ArithmeticError, {"TooMany": ["what", "limit"]}),
}
KINDS = [
    (name, family, names) for family, (_, kinds) in FAMILIES.items() for name, names in kinds.items()
]


class ErrorTests(Case):
    def test_bases(self):
        for family, (builtin, _) in FAMILIES.items():
            self.assertEqual(getattr(errors, family).__bases__, (builtin,))
        for name, family, _ in KINDS:
            self.assertEqual(getattr(errors, name).__bases__, (getattr(errors, family),), name)

    def test_no_others_and_all_defined_here(self):
        found = [name for name, held in vars(errors).items() if isinstance(held, type)]
        self.assertEqual(sorted(found), sorted(list(FAMILIES) + [name for name, _, _ in KINDS]))
        for name in found:
            self.assertEqual(getattr(errors, name).__module__, "uplines.errors")

    def test_attributes_by_position(self):
        for name, _, names in KINDS:
            for value in odd_values() + ["a", 0, ("a", "b")]:
                passed = [[value, place] for place in range(len(names))]
                made = getattr(errors, name)(*passed)
                self.assertEqual(sorted(vars(made)), sorted(names))
                for attribute, wanted in zip(names, passed):
                    self.assertIs(getattr(made, attribute), wanted)

    def test_attributes_by_name(self):
        for name, _, names in KINDS:
            for value in odd_values():
                passed = {attribute: (value, attribute) for attribute in reversed(names)}
                made = getattr(errors, name)(**passed)
                self.assertEqual(vars(made), passed)

    def test_raised_and_caught_by_family(self):
        for name, family, names in KINDS:
            for base in (getattr(errors, name), getattr(errors, family), FAMILIES[family][0]):
                with self.assertRaises(base):
                    raise getattr(errors, name)(*names)

    def test_parameters_are_wanted(self):
        for name, _, names in KINDS:
            if names:
                with self.assertRaises(TypeError):
                    getattr(errors, name)()


if __name__ == "__main__":
    unittest.main()
