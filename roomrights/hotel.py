"""All that is open: the house, the agents and the net between them."""

from roomrights.agents import Agent
from roomrights.house import House
from roomrights.messages import UnderWay
from roomrights.nodes import Node
from roomrights.stock import even_stock


class Hotel:
    """The rooms of each kind, and the nodes: 0 is the house, those behind it are the agents."""

    def __init__(self, rooms, nights, agents):
        self.rooms = rooms
        self.kinds = len(rooms)
        self.nights = nights
        self.agents = agents
        self.under_way = UnderWay()
        house = House(even_stock(rooms, nights), list(range(1, agents + 1)))
        nodes = [Node(0, house)]
        for number in range(1, agents + 1):
            nodes.append(Node(number, Agent(even_stock([0] * len(rooms), nights))))
        self.nodes = nodes

    def house(self):
        """What the house knows."""
        return self.nodes[0].known

    def known_by(self, number):
        """What that node knows."""
        return self.nodes[number].known

    def deliver(self, place):
        """The parcel at that place under way, from 1 on, comes."""
        self.bring(self.under_way.take(place))

    def bring(self, parcel):
        """A parcel that was under way comes to its node."""
        self.nodes[parcel.receiver].receive(parcel)

    def make_round(self):
        """All write, then all send again, then all comes: what comes of that is for the next round."""
        for node in self.nodes:
            node.write(self.under_way)
        for node in self.nodes:
            node.send_again(self.under_way)
        for parcel in self.under_way.take_all():
            self.bring(parcel)

    def is_quiet(self):
        """Whether nothing is under way and every node is at rest."""
        return self.under_way.amount() == 0 and all([node.is_at_rest() for node in self.nodes])
