"""Runs with real copies: what they show, and the names' values [7]."""

from copyplaces.walks import shown_along


class Values:
    """The values of the names in a run with real copies."""

    def __init__(self, names):
        self.value_at = [()] * names

    def value_of(self, x):
        """Return the value of the name x."""
        return self.value_at[x]

    def do(self, statement):
        """Do a statement that is passed; a spot changes nothing."""
        if statement[0] == "fresh":
            self.value_at[statement[1]] = ()
        elif statement[0] == "give":
            _, _, x, y = statement
            self.value_at[x] = self.value_at[y]
        elif statement[0] == "change":
            _, _, x, mark = statement
            self.value_at[x] += (mark,)


def run(program, ways):
    """Return what is shown, as a tuple of pairs of a spot and a value, and the end."""
    return shown_along(program, ways, Values(program[0]))


def values_behind(program, ways):
    """Return the tuple of the values that the names have behind the ways."""
    values = Values(program[0])
    shown_along(program, ways, values)
    return tuple(values.value_at)
