"""All that is open: the house, the agents and the net between them."""

from roomrights.agents import Agent
from roomrights.house import House
from roomrights.messages import UnderWay
from roomrights.nodes import Node
from roomrights.stock import even_stock


class Hotel:
    """Node 0 is the house, the nodes behind it are the agents."""

    def __init__(self, rooms, nights, agents):
        self.kinds = len(rooms)
        self.nights = nights
        self.agents = agents
        self.under_way = UnderWay()
        house = House(even_stock(rooms, nights), list(range(1, agents + 1)))
        nodes = [Node(0, house)]
        for number in range(1, agents + 1):
            nodes.append(Node(number, Agent(even_stock([0] * len(rooms), nights))))
        self.nodes = nodes

    def house(self):
        """What the house knows."""
        return self.nodes[0].known

    def known_by(self, number):
        """What that node knows."""
        return self.nodes[number].known

    def deliver(self, place):
        """The parcel at that place under way, from 1 on, comes."""
        parcel = self.under_way.take(place)
        self.nodes[parcel.receiver].receive(parcel)
