"""Runs by sharing in a store that has as many slots as there are names [18]."""

from copyplaces.walks import shown_along


class Slots:
    """The slots of the names, the values in the slots, and how many copies were made."""

    def __init__(self, names, copying):
        self.copying = copying
        self.slot_of = list(range(names))
        self.value_in = [()] * names
        self.copies = 0

    def value_of(self, x):
        """Return the value in the slot of the name x."""
        return self.value_in[self.slot_of[x]]

    def do(self, statement):
        """Do a statement that is passed; a spot changes nothing."""
        if statement[0] == "fresh":
            self._fresh(statement[1])
        elif statement[0] == "give":
            _, label, x, y = statement
            if label in self.copying:
                self._copy(x, y)
            else:
                self.slot_of[x] = self.slot_of[y]
        elif statement[0] == "change":
            _, label, x, mark = statement
            # A name that alone has its cell needs no other one.
            if label in self.copying and self._shares(x):
                self._copy(x, x)
            self.value_in[self.slot_of[x]] += (mark,)

    def _fresh(self, x):
        if self._shares(x):
            self._move(x)
        self.value_in[self.slot_of[x]] = ()

    def _copy(self, x, y):
        """Put x in a free slot with the value of y."""
        value = self.value_of(y)
        self._move(x)
        self.value_in[self.slot_of[x]] = value
        self.copies += 1

    def _move(self, x):
        """Put x in the least slot in which no other name is."""
        others = self._slots_of_others(x)
        # The others are fewer than the slots, so one of these is left.
        self.slot_of[x] = [slot for slot in range(len(self.slot_of)) if slot not in others][0]

    def _shares(self, x):
        return self.slot_of[x] in self._slots_of_others(x)

    def _slots_of_others(self, x):
        return self.slot_of[:x] + self.slot_of[x + 1:]


def run_store(program, copying, ways):
    """Return what is shown, the end, and how many copies were made."""
    slots = Slots(program[0], copying)
    shown, end = shown_along(program, ways, slots)
    return shown, end, slots.copies


def slots_behind(program, copying, ways):
    """Return the tuple of the names' slots behind the ways."""
    slots = Slots(program[0], copying)
    shown_along(program, ways, slots)
    return tuple(slots.slot_of)
