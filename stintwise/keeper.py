"""Hours that come one behind another, whose wants may be told late."""

from stintwise.errors import NoDeed, NoHour
from stintwise.ledgers import plan_cost
from stintwise.mends import position_felled
from stintwise.plans import position_behind
from stintwise.whole import cheapest_plan


class Keeper:
    """Keeps the wants that wait, the hours that were gone, the position of now, and what was ahead of each deed."""

    def __init__(self, works, position):
        self.works = works
        self.place = position
        self.waits = []
        self.past = []
        self.cost = 0
        self.deeds = []

    def keep_deed(self):
        """Keep how all is, ahead of a deed."""
        # Hours that were gone are only ever put behind the others: how many they were is enough.
        self.deeds.append((self.place, list(self.waits), len(self.past), self.cost))

    def tell(self, want):
        """The want of one hour more, behind those that wait."""
        self.keep_deed()
        self.waits.append(want)

    def change(self, at, want):
        """Another want for the hour that waits at that place."""
        if at < 0 or at >= len(self.waits):
            raise NoHour()
        self.keep_deed()
        self.waits[at] = want

    def fall(self, machine, hours):
        """Now the machine of that place falls, for so many hours."""
        felled = position_felled(self.works, self.place, machine, hours)
        self.keep_deed()
        self.place = felled

    def go(self):
        """The next hour comes as the cheapest plan for all wants that wait has it; tells that hour's tuple."""
        if len(self.waits) == 0:
            raise NoHour()
        planned = self.due_plan()[1][0]
        self.keep_deed()
        want = self.waits.pop(0)
        self.past.append((want, planned))
        self.cost += plan_cost(self.works, self.place, [want], [planned])
        self.place = position_behind(self.works, self.place, [planned])
        return planned

    def undo(self):
        """Take back the last deed that stands."""
        if len(self.deeds) == 0:
            raise NoDeed()
        kept = self.deeds.pop()
        self.place = kept[0]
        self.waits = kept[1]
        self.past = self.past[:kept[2]]
        self.cost = kept[3]

    def waiting(self):
        """The list of the wants that wait."""
        return list(self.waits)

    def gone(self):
        """The list of tuples (want, hour's tuple) of the hours that were gone."""
        return list(self.past)

    def now(self):
        """The position of now."""
        return self.place

    def spent(self):
        """What the hours that were gone cost."""
        return self.cost

    def due_plan(self):
        """What the cheapest plan is for the wants that wait, as a tuple (cost, plan)."""
        return cheapest_plan(self.works, self.place, self.waits)
