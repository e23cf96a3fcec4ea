"""Consoles, which keep floors and rows by names and do what they are told in words."""

from quasifloors.checks import check_floor, check_row
from quasifloors.errors import InvalidName, NothingToUndo, UnknownName, Unorderly, WrongKind
from quasifloors.floors import moved_floor
from quasifloors.orders import FORMS, answer, is_asking, order_in
from quasifloors.parsing import is_name
from quasifloors.readers import read_floor
from quasifloors.rows import stretched_row
from quasifloors.stretches import stretched


def check_name(told):
    if not is_name(told):
        raise InvalidName(told)


class Console:
    """Floors and rows by their names."""

    def __init__(self):
        # By name ("floor" or "row", the thing); and of each change, in their sequence, (name, what it was before).
        self._things = {}
        self._changes = []

    def _keep(self, name, what, thing):
        self._changes.append((name, self._things.get(name)))
        self._things[name] = (what, thing)

    def _check_known(self, name):
        if not is_name(name) or name not in self._things:
            raise UnknownName(name)

    def _check_what(self, name, what):
        if self._things[name][0] != what:
            raise WrongKind(name)

    def keep_floor(self, name, floor):
        """Keep a floor by a name, in the place of what has it."""
        check_name(name)
        check_floor(floor)
        self._keep(name, "floor", floor)

    def keep_row(self, name, row):
        """Keep a row by a name, in the place of what has it."""
        check_name(name)
        check_row(row)
        self._keep(name, "row", row)

    def drop(self, name):
        """Keep what has a name no longer."""
        self._check_known(name)
        self._changes.append((name, self._things.pop(name)))

    def undo(self):
        """Take back the last change that is not taken back."""
        if not self._changes:
            raise NothingToUndo(0)
        name, elder = self._changes.pop()
        if elder is None:
            self._things.pop(name)
        else:
            self._things[name] = elder

    def floor(self, name):
        self._check_known(name)
        self._check_what(name, "floor")
        return self._things[name][1]

    def row(self, name):
        self._check_known(name)
        self._check_what(name, "row")
        return self._things[name][1]

    def names(self):
        """Return the ascending list of (name, "floor" or "row")."""
        return sorted([(name, self._things[name][0]) for name in self._things])

    def order(self, text):
        """Do what a text says, and return the answer, a text."""
        told = order_in(text)
        if told is None:
            raise Unorderly(text)
        word, values = told
        if word == "names":
            return "\n".join([f"{name} {what}" for name, what in self.names()]) if self._things else "none"
        if word in FORMS:
            values = self._meant(FORMS[word], values)
        if is_asking(word):
            return answer(word, values)
        self._change(word, values)
        return "done"

    def _meant(self, form, values):
        """Return the values of an order with the things that names mean, names of new ones left as they are."""
        named = [(sort, name) for sort, name in zip(form, values) if sort in ("thing", "floor", "row")]
        for sort, name in named:
            self._check_known(name)
        for sort, name in named:
            if sort != "thing":
                self._check_what(name, sort)
        meant = []
        for sort, told in zip(form, values):
            if sort == "thing":
                meant.append(self._things[told])
            else:
                meant.append(self._things[told][1] if sort in ("floor", "row") else told)
        return meant

    def _change(self, word, told):
        if word == "undo":
            self.undo()
        elif word == "drop":
            self.drop(told[0])
        elif word == "floor":
            self.keep_floor(told[0], read_floor(told[1]))
        elif word == "row":
            self.keep_row(told[0], (told[1], told[2], told[3]))
        elif word == "moved":
            self.keep_floor(told[0], moved_floor(told[1], (told[2], told[3])))
        elif word == "stretched":
            self.keep_floor(told[0], stretched(told[1], told[2]))
        else:
            self.keep_row(told[0], stretched_row(told[1], told[2]))
