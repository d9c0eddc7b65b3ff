"""What is wrong with tables and ways of a program [17]."""

from copyplaces.facts import facts_behind
from copyplaces.flow import flow_start, flows_of
from copyplaces.safety import stale_looks


class Judge:
    """Judges tables and ways of one program.

    A certificate may be large and say the same of many places, so what facts lead to
    is worked out once.
    """

    def __init__(self, program):
        self.start_flow = flow_start(program)
        self.flows = flows_of(program)
        self.looks = {fact: True for fact in stale_looks(program)}
        self.start_of = {}
        self.led_by = {}

    def fault_of_table(self, table, copying):
        """Return None if the table shows that the copying is safe, else the first fault."""
        present = {fact: True for fact in table}
        start = self._start(copying)
        if any(fact not in present for fact in start):
            return ("start",)
        for k, fact in enumerate(table):
            if fact in self.looks:
                return ("stale", k)
            for way in range(len(self.flows[fact[0]])):
                led = self._led((fact,), way, copying)
                if any(other not in present for other in led):
                    return ("step", k, way)
        return None

    def breaks(self, ways, copying):
        """Return whether the runs by the ways show different things."""
        # All that holds at a spot in one run: what it leads to holds at the next one, and
        # nothing else. So no values are needed, which grow with the list of ways.
        facts = self._start(copying)
        for way in ways:
            if not facts or way >= len(self.flows[facts[0][0]]):
                return False
            if any(fact in self.looks for fact in facts):
                return True
            facts = self._led(facts, way, copying)
        return False

    def _start(self, copying):
        """Return the start facts."""
        if copying not in self.start_of:
            self.start_of[copying] = facts_behind([("reached",)], self.start_flow, copying)
        return self.start_of[copying]

    def _led(self, facts, way, copying):
        """Return the facts to which the facts, all of one spot, lead by the way."""
        if (facts, way, copying) not in self.led_by:
            signs = [fact[1:] for fact in facts]
            passing = self.flows[facts[0][0]][way]
            self.led_by[facts, way, copying] = facts_behind(signs, passing, copying)
        return self.led_by[facts, way, copying]
