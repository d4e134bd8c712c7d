"""Desks: a sheet that is changed and asked by commands, which are lines of words."""

from uplines.commands import answer_to, changed, does_change, is_form
from uplines.errors import CommandFailed, InvalidCommand, InvalidSheet, NothingToUndo
from uplines.errors import LimitError, MissingError, SheetError, StateError
from uplines.saving import Saved
from uplines.sheets import Sheet


class Desk:
    """A sheet that commands change, one by one, and what it was ahead of each of them."""

    def __init__(self, sheet):
        self._past = []
        self._saved = None
        self.use(sheet)

    @staticmethod
    def is_command(value):
        """Whether any value is a command by its form."""
        return isinstance(value, str) and is_form(value.split(" "))

    @property
    def sheet(self):
        """The sheet as it is now; nothing can be taken back where it is set."""
        return self._past[-1][1]

    @sheet.setter
    def sheet(self, value):
        self.use(value)

    def use(self, sheet):
        """Take another sheet; nothing can be taken back then."""
        if not isinstance(sheet, Sheet):
            raise InvalidSheet(sheet)
        # Tuples of a command and the sheet behind it. The list is replaced, never changed, so that it can be kept.
        self._past = [(None, sheet)]

    def log(self):
        """The list of the commands that have changed the sheet and are not taken back."""
        return [command for command, _ in self._past[1:]]

    def do(self, command):
        """The answer to a command, which is done."""
        if not Desk.is_command(command):
            raise InvalidCommand(command)
        word, *rest = command.split(" ")
        if word == "undo":
            return self._undo()
        if not does_change(word):
            return answer_to(self.sheet, word, rest)
        self._put(command, changed(self.sheet, word, rest))
        return str(len(self.sheet) - 1) if word == "level" else "done"

    def do_all(self, *commands):
        """The list of the answers to commands; if one cannot be done, none is."""
        past = self._past
        answers = []
        for position, command in enumerate(commands):
            try:
                answers.append(self.do(command))
            except (SheetError, MissingError, StateError, LimitError) as e:
                self._past = past
                raise CommandFailed(position) from e
        return answers

    def copy(self):
        """A desk with the same sheet and log, and with what it was, that goes on by itself."""
        made = Desk(self.sheet)
        made._past = self._past
        return made

    def __call__(self, command):
        return self.do(command)

    def __iadd__(self, other):
        sheet = self.sheet + other
        low, high = other
        self._put(f"line {low} {high}", sheet)
        return self

    def __len__(self):
        return len(self._past[1:])

    def __eq__(self, other):
        return isinstance(other, Desk) and self.sheet == other.sheet and self.log() == other.log()

    def __enter__(self):
        self._saved = Saved(self._past, self._saved)
        return self

    def __exit__(self, kind, value, trace):
        saved = self._saved
        if kind is not None:
            self._past = saved.past
        self._saved = saved.outer

    def _undo(self):
        """Take back the last command that changed the sheet; how many are left is the answer."""
        if len(self) == 0:
            raise NothingToUndo()
        self._past = self._past[:-1]
        return str(len(self))

    def _put(self, command, sheet):
        """Go on with the sheet behind a command."""
        self._past = [*self._past, (command, sheet)]
