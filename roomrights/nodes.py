"""A node: what it knows, its disk, and how both meet the net."""

from roomrights.messages import Parcel


class Node:
    """The disk is a copy of what was known at the last writing."""

    def __init__(self, number, known):
        self.number = number
        self.known = known
        self.disk = known.copied()

    def write(self, under_way):
        """The disk comes before the net: what is sent can't be forgotten by a cut."""
        parcels = self.new_parcels()
        self.disk = self.known.copied()
        for parcel in parcels:
            under_way.put(parcel)

    def new_parcels(self):
        """For each link the messages since the last writing, then word if it is owed; it is owed no more."""
        parcels = []
        for peer in self.known.links:
            link = self.known.links[peer]
            written = self.disk.links[peer]
            parcels.extend(self.parcels_to(peer, link.unsure_from(written.next_message)))
            if link.owes_word:
                parcels.append(Parcel(self.number, peer, link.expected - 1, ()))
                link.owes_word = False
        return parcels

    def parcels_to(self, peer, messages):
        """The messages, each with its number, as they go to that node."""
        return [Parcel(self.number, peer, number, row) for number, row in messages]

    def cut_power(self):
        """Only what is on the disk is known."""
        self.known = self.disk.copied()

    def send_again(self, under_way):
        """Put on the net all messages on the disk that aren't known there to have come."""
        for peer in self.disk.links:
            for parcel in self.parcels_to(peer, self.disk.links[peer].unsure):
                under_way.put(parcel)

    def is_at_rest(self):
        """Whether no ask waits here, all that was sent has come, and a cut would forget nothing."""
        if self.known.asks_waiting() > 0 or self.known.unsure_amount() > 0:
            return False
        return self.known.facts() == self.disk.facts()

    def receive(self, parcel):
        """A parcel comes: a message is done only if it is the next one."""
        link = self.known.links[parcel.sender]
        if parcel.is_word():
            link.strike(parcel.number)
        elif parcel.number < link.expected:
            link.owes_word = True
        elif parcel.number == link.expected:
            link.expected += 1
            link.owes_word = True
            self.known.hear(parcel.sender, parcel.row)
