"""How many rooms a node may still sell, kind by kind and night by night."""


class Stock:
    """For each kind a row with how many rooms there are for each night."""

    def __init__(self, rows):
        self.rows = rows

    def copied(self):
        """Another stock with the same rooms."""
        return Stock([list(row) for row in self.rows])

    def rooms_on(self, kind, night):
        """How many rooms of the kind there are for that night."""
        return self.rows[kind - 1][night]

    def has(self, span):
        """Whether there are enough rooms for each night of the span."""
        row = self.rows[span.kind - 1]
        return min(row[span.first:span.behind]) >= span.rooms

    def add_row(self, kind, first, amounts):
        """More by these amounts, night by night from the first one on."""
        row = self.rows[kind - 1]
        for place, amount in enumerate(amounts):
            row[first + place] += amount

    def add_span(self, span):
        """More by the span."""
        self.add_row(span.kind, span.first, [span.rooms] * (span.behind - span.first))

    def take_span(self, span):
        """Less by the span, which the stock has."""
        self.add_row(span.kind, span.first, [-span.rooms] * (span.behind - span.first))

    def take_what_is_there(self, span):
        """Less by as much as there is, at most the span; gives back how much for each night."""
        row = self.rows[span.kind - 1]
        amounts = [min(there, span.rooms) for there in row[span.first:span.behind]]
        self.add_row(span.kind, span.first, [-amount for amount in amounts])
        return amounts


def even_stock(rooms, nights):
    """A stock with all rooms of each kind for all nights."""
    return Stock([[amount] * nights for amount in rooms])
