"""Queues: how many bytes may go, and whose go first."""

from wirestack.errors import RouteError

CREDIT_OF_TURN = 50
MOST_WAITING = 20


class Bucket:
    """A rate of bytes for each tick, the most that is saved up, what is saved, and the time of the last look."""

    def __init__(self, rate, most):
        if rate < 1 or most < 1:
            raise RouteError("no bucket")
        self.rate = rate
        self.most = most
        self.saved = most
        self.time = 0

    def look(self, time):
        """Add what time brings, up to the most; return what is saved. Raise RouteError for an earlier time."""
        if time < self.time:
            raise RouteError("time does not go back")
        self.saved = min(self.most, self.saved + self.rate * (time - self.time))
        self.time = time
        return self.saved

    def take(self, size, time):
        """Return True, and take so many bytes, if they are saved at a time."""
        if size > self.look(time):
            return False
        self.saved -= size
        return True

    def ready_at(self, size):
        """Return the earliest time at which so many bytes are saved, if none are taken.

        Raise RouteError for more than fit.
        """
        if size > self.most:
            raise RouteError("so much is never saved")
        missing = max(0, size - self.saved)
        return self.time + (missing + self.rate - 1) // self.rate


class FairQueue:
    """Things that wait by flow, the flows in the order of their turns, and what each may still send in its turn."""

    def __init__(self):
        self.rows = {}
        self.order = []
        self.credit = {}

    def put(self, flow, size, thing):
        """Let a thing of a size from 1 on wait in a flow; return False if 20 things of the flow wait already."""
        if size < 1:
            raise RouteError("a thing has a size from 1 on")
        if flow not in self.rows:
            self.rows[flow] = []
            self.order.append(flow)
            self.credit[flow] = 0
        if len(self.rows[flow]) >= MOST_WAITING:
            return False
        self.rows[flow].append((size, thing))
        return True

    def take(self):
        """Return (flow, thing) of what goes next, None if nothing waits.

        The first flow sends as long as its credit lasts; if it does not, the flow gets 50 more and goes to the end.
        """
        if self.order == []:
            return None
        flow = self.order[0]
        while self.rows[flow][0][0] > self.credit[flow]:
            self.credit[flow] += CREDIT_OF_TURN
            self.order.append(self.order.pop(0))
            flow = self.order[0]
        size, thing = self.rows[flow].pop(0)
        self.credit[flow] -= size
        if self.rows[flow] == []:
            self.forget(flow)
        return (flow, thing)

    def forget(self, flow):
        """Forget a flow of which nothing waits, its credit too."""
        del self.rows[flow]
        del self.credit[flow]
        self.order.remove(flow)

    def count_waiting(self):
        """Return how many things wait."""
        return sum([len(row) for row in self.rows.values()])
