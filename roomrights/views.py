"""The calls that only look, each as a function of the hotel and the call's numbers.

Each gives back what is told behind the 0 of an accepted call; none changes anything or refuses anything.
"""

from roomrights.agents import HOUSE
from roomrights.messages import rights_in
from roomrights.rooming import rooms_of, stays_of
from roomrights.spans import rooms_held

FIRST_VIEW = 17


def view_cell(hotel, numbers):
    """Where the rights to the rooms of a kind are on one night."""
    kind = numbers[0]
    night = numbers[1]
    house = hotel.house()
    told = [hotel.rooms[kind - 1]] + rights_with(house, kind, night)
    told.append(rooms_held(house.shut_spans, kind, night))
    for number in house.links:
        agent = hotel.known_by(number)
        near = house.links[number]
        far = agent.links[HOUSE]
        told.extend(rights_with(agent, kind, night))
        told.append(rights_sent(near, far, kind, night) + rights_sent(far, near, kind, night))
    return told


def rights_with(known, kind, night):
    """A node's stock, and how many of its bookings hold the night."""
    return [known.stock.rooms_on(kind, night), rooms_held(known.bookings, kind, night)]


def rights_sent(sender, receiver, kind, night):
    """The rights in messages from one side of a link that it isn't sure of and the other side hasn't taken."""
    return sum([rights_in(row, kind, night) for number, row in sender.unsure_from(receiver.expected)])


def view_book(hotel, numbers):
    """A node's bookings."""
    return listed(hotel.known_by(numbers[0]).bookings)


def view_kept(hotel, numbers):
    """The bookings on a node's disk."""
    return listed(hotel.nodes[numbers[0]].disk.bookings)


def view_seen(hotel, numbers):
    """The bookings of an agent that the house was told of."""
    return listed(hotel.house().told[numbers[0]])


def listed(bookings):
    """For each booking its number, kind and nights."""
    told = []
    for booking in bookings:
        told.extend(booking.booking_numbers())
    return told


def view_asks(hotel, numbers):
    """An agent's asks with their states."""
    agent = hotel.known_by(numbers[0])
    told = []
    for place, span in enumerate(agent.ask_spans):
        told.append(place + 1)
        told.extend(span.numbers())
        told.append(agent.ask_states[place])
    return told


def view_waits(hotel, numbers):
    """The asks that wait at the house."""
    told = []
    for wait in hotel.house().waits:
        told.extend([wait.agent, wait.ask_number])
        told.extend(wait.span.numbers())
        told.extend([1 if wait.asked_around else 0, len(wait.unanswered)])
    return told


def view_flying(hotel, numbers):
    """The messages under way, each with its row."""
    told = [hotel.under_way.amount()]
    for parcel in hotel.under_way.parcels:
        told.extend([parcel.sender, parcel.receiver, parcel.number, len(parcel.row)])
        told.extend(parcel.row)
    return told


def view_owed(hotel, numbers):
    """How far each of a node's links has come."""
    links = hotel.known_by(numbers[0]).links
    told = []
    for peer in links:
        link = links[peer]
        told.extend([link.next_message, link.expected, len(link.unsure)])
    return told


def view_quiet(hotel, numbers):
    """Whether it is quiet."""
    return [1 if hotel.is_quiet() else 0]


def view_rooming(hotel, numbers):
    """The stays of a kind, each with its room."""
    stays = stays_of(hotel, numbers[0])
    told = []
    for stay, room in zip(stays, rooms_of(stays)):
        told.extend([stay.node, stay.number, stay.first, stay.behind, room])
    return told


VIEWS = {
    17: view_cell,
    18: view_book,
    19: view_asks,
    20: view_waits,
    21: view_seen,
    22: view_flying,
    23: view_owed,
    24: view_quiet,
    25: view_rooming,
    26: view_kept,
}


def view(hotel, place, numbers):
    """What the call at that place tells, whose numbers are in their ranges."""
    look = VIEWS[place]
    return look(hotel, numbers)
