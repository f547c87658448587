"""Translation: a host whose streams outside seem to begin at itself, for all the hosts that stand behind it."""

from wirestack.errors import SocketError
from wirestack.streams import read_segment, segment_bytes

MOST_FLOWS = 50
MOST_UNUSED = 200


class Flow:
    """A stream's opener and number inside, the number outside, with whom, and when it was last used."""

    def __init__(self, opener, number, outer, peer, time):
        self.opener = opener
        self.number = number
        self.outer = outer
        self.peer = peer
        self.used = time


def begun_at(segment, opener, number):
    """Return the bytes of a segment with another opener and number of its stream."""
    return segment_bytes((segment[0], opener, number) + segment[3:])


class Translator:
    """The address outside, the addresses inside, flows in the order in which they began, and doors.

    A door leads from an address outside to a host inside for streams that it opens.
    """

    def __init__(self, outside, inside):
        self.outside = outside
        self.inside = tuple(inside)
        self.flows = []
        self.doors = {}

    def open_door(self, peer, inside):
        """Let a peer outside open streams to a host inside; raise SocketError for a host that is not inside."""
        if inside not in self.inside or peer in self.inside:
            raise SocketError("no door can be there")
        self.doors[peer] = inside

    def forget(self, time):
        """Drop flows that were not used for 200 ticks."""
        self.flows = [flow for flow in self.flows if time - flow.used < MOST_UNUSED]

    def outgoing(self, source, target, data, time):
        """Return (source outside, bytes) of a segment that goes out, None for one that may not.

        A stream that a host inside opened gets the least number outside that no flow to its target has; one that was
        let in by a door keeps its number. Raise SocketError for bytes that are no segment.
        """
        segment = read_segment(data)
        self.forget(time)
        if source not in self.inside or target in self.inside:
            return None
        opener, number = segment[1], segment[2]
        if opener != source:
            let_in = opener == target and self.doors.get(target) == source
            return (self.outside, data) if let_in else None
        flow = self.flow_of(opener, number, target, time)
        if flow is None:
            return None
        flow.used = time
        return (self.outside, begun_at(segment, self.outside, flow.outer))

    def flow_of(self, opener, number, peer, time):
        """Return the flow of a stream that a host inside opened, a new one if there is none; None for want of room."""
        for flow in self.flows:
            if (flow.opener, flow.number, flow.peer) == (opener, number, peer):
                return flow
        if len(self.flows) >= MOST_FLOWS:
            return None
        taken = [flow.outer for flow in self.flows if flow.peer == peer]
        outer = 1
        while outer in taken:
            outer += 1
        found = Flow(opener, number, outer, peer, time)
        self.flows.append(found)
        return found

    def incoming(self, source, data, time):
        """Return (host inside, bytes) of a segment that comes from outside, None for one that belongs to no flow.

        Raise SocketError for bytes that are no segment.
        """
        segment = read_segment(data)
        self.forget(time)
        opener, number = segment[1], segment[2]
        if opener == source and source in self.doors:
            return (self.doors[source], data)
        if opener != self.outside:
            return None
        for flow in self.flows:
            if flow.outer == number and flow.peer == source:
                flow.used = time
                return (flow.opener, begun_at(segment, flow.opener, flow.number))
        return None
