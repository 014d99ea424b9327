"""One node's side of a link to another node."""


class Link:
    """What was sent, what is expected, and whether word of what has come is owed."""

    def __init__(self):
        self.next_message = 1
        self.unsure = []
        self.expected = 1
        self.owes_word = False

    def copied(self):
        """Another link that knows the same."""
        other = Link()
        other.next_message = self.next_message
        other.unsure = list(self.unsure)
        other.expected = self.expected
        other.owes_word = self.owes_word
        return other

    def facts(self):
        """The link as plain values."""
        return (self.next_message, list(self.unsure), self.expected, self.owes_word)

    def send(self, row):
        """The row becomes the next message, not known to have come."""
        self.unsure.append((self.next_message, row))
        self.next_message += 1

    def unsure_from(self, number):
        """The messages from that number on that aren't known to have come, each with its number."""
        return [sent for sent in self.unsure if sent[0] >= number]

    def strike(self, number):
        """The messages up to that number are known to have come."""
        self.unsure = self.unsure_from(number + 1)
