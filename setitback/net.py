"""Circulations in nets that were looked at already, by sending on what has room to go."""


class Net:
    """Half arcs with room, two for each arc: half arc h leads one way, h ^ 1 the other way back."""

    def __init__(self, nodes):
        self.ends = []
        self.room = []
        self.leaving = [[] for _ in range(nodes)]

    def add_arc(self, begin, end, room):
        """An arc through which so much can go; what has gone is the room of its way back."""
        self.leaving[begin].append(len(self.ends))
        self.leaving[end].append(len(self.ends) + 1)
        self.ends.append(end)
        self.ends.append(begin)
        self.room.append(room)
        self.room.append(0)

    def reached(self, source):
        """By node that can be reached the half arc that first led to it, -1 for the source."""
        came_by = {source: -1}
        queue = [source]
        done = 0
        while done < len(queue):
            node = queue[done]
            done += 1
            for half in self.leaving[node]:
                if self.room[half] > 0 and self.ends[half] not in came_by:
                    came_by[self.ends[half]] = half
                    queue.append(self.ends[half])
        return came_by

    def way(self, source, sink):
        """The half arcs of a shortest way with room; None if there is no way."""
        came_by = self.reached(source)
        if sink not in came_by:
            return None
        halves = []
        node = sink
        while node != source:
            halves.append(came_by[node])
            node = self.ends[came_by[node] ^ 1]
        return halves

    def push(self, source, sink, most):
        """Send as much as can go, but no more than most, from source to sink; how much went."""
        gone = 0
        while gone < most:
            halves = self.way(source, sink)
            if halves is None:
                return gone
            part = min(most - gone, min([self.room[half] for half in halves]))
            for half in halves:
                self.room[half] = self.room[half] - part
                self.room[half ^ 1] = self.room[half ^ 1] + part
            gone = gone + part
        return gone

    def shut(self, arc):
        """Let nothing more go through an arc, either way; how much went through it."""
        gone = self.room[2 * arc + 1]
        self.room[2 * arc] = 0
        self.room[2 * arc + 1] = 0
        return gone


def surpluses(nodes, arcs):
    """By node how much more comes in than goes out while each arc carries its least."""
    surplus = [0] * nodes
    for begin, end, low, _ in arcs:
        surplus[begin] = surplus[begin] - low
        surplus[end] = surplus[end] + low
    return surplus


def net_of(nodes, arcs):
    """The net of the arcs with all surpluses sent on as far as can be, and whether all could be."""
    source, sink = nodes, nodes + 1
    net = Net(nodes + 2)
    for begin, end, low, high in arcs:
        net.add_arc(begin, end, high - low)
    due = 0
    for node, surplus in enumerate(surpluses(nodes, arcs)):
        if surplus > 0:
            net.add_arc(source, node, surplus)
            due = due + surplus
        else:
            net.add_arc(node, sink, -surplus)
    return net, net.push(source, sink, due) == due


def flow_or_cut(nodes, arcs):
    """("flow", values) of a circulation, or ("cut", lot) where more must come in than can go out."""
    net, whole = net_of(nodes, arcs)
    if whole:
        return "flow", tuple([arc[2] + net.room[2 * at + 1] for at, arc in enumerate(arcs)])
    # What still stands at the source cannot leave the nodes that it reaches.
    reached = net.reached(nodes)
    return "cut", tuple([node for node in range(nodes) if node in reached])


def least_flow(nodes, arcs):
    """The circulation whose values are the least tuple; None if there is none."""
    net, whole = net_of(nodes, arcs)
    if not whole:
        return None
    values = []
    for at, (begin, end, low, _) in enumerate(arcs):
        # What this arc carries above its least goes by later arcs, as far as they have room.
        carried = net.shut(at)
        values.append(low + carried - net.push(begin, end, carried))
    return tuple(values)
