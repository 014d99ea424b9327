"""The calls that may change what is open, each as a function of the hotel and the call's numbers.

Each answers a refusal alone, before anything is changed, or ACCEPTED and what else is told.
"""

from roomrights.ranges import MOST_ASKS
from roomrights.spans import entry_with, room_at, span_at

ACCEPTED = 0
OUT_OF_RANGE = -1
NOTHING_OPEN = -2
NOT_IN_STOCK = -3
NO_ROOM = -4
NONE_SUCH = -5

MOST_BOOKINGS = 40
MOST_SHUT_SPANS = 40
MOST_ASKS_WAITING = 2


def call_give(hotel, numbers):
    """The house gives an agent rights."""
    span = span_at(numbers, 1)
    if not hotel.house().stock.has(span):
        return [NOT_IN_STOCK]
    hotel.house().give(numbers[0], 0, span)
    return [ACCEPTED]


def call_back(hotel, numbers):
    """An agent gives rights back."""
    agent = hotel.known_by(numbers[0])
    span = span_at(numbers, 1)
    if not agent.stock.has(span):
        return [NOT_IN_STOCK]
    agent.give_back(span)
    return [ACCEPTED]


def call_ask(hotel, numbers):
    """An agent asks for rights; answers the ask's number."""
    agent = hotel.known_by(numbers[0])
    if agent.asks_waiting() >= MOST_ASKS_WAITING or agent.asks_made() >= MOST_ASKS:
        return [NO_ROOM]
    return [ACCEPTED, agent.ask(span_at(numbers, 1))]


def call_unask(hotel, numbers):
    """An agent takes an ask back."""
    agent = hotel.known_by(numbers[0])
    if not agent.waits_for(numbers[1]):
        return [NONE_SUCH]
    agent.unask(numbers[1])
    return [ACCEPTED]


def call_sell(hotel, numbers):
    """A node sells a room; answers the booking's number."""
    seller = hotel.known_by(numbers[0])
    span = room_at(numbers, 1)
    if len(seller.bookings) >= MOST_BOOKINGS:
        return [NO_ROOM]
    if not seller.stock.has(span):
        return [NOT_IN_STOCK]
    return [ACCEPTED, seller.sell(span).number]


def call_cancel(hotel, numbers):
    """A node drops a booking."""
    seller = hotel.known_by(numbers[0])
    booking = entry_with(seller.bookings, numbers[1])
    if booking is None:
        return [NONE_SUCH]
    seller.drop(booking)
    return [ACCEPTED]


def call_change(hotel, numbers):
    """A node drops a booking and sells another one; answers the new number."""
    seller = hotel.known_by(numbers[0])
    booking = entry_with(seller.bookings, numbers[1])
    span = room_at(numbers, 2)
    if booking is None:
        return [NONE_SUCH]
    if not seller.can_change(booking, span):
        return [NOT_IN_STOCK]
    return [ACCEPTED, seller.change(booking, span).number]


def call_shut(hotel, numbers):
    """The house shuts rooms; answers their number."""
    house = hotel.house()
    span = span_at(numbers, 0)
    if not house.stock.has(span):
        return [NOT_IN_STOCK]
    if len(house.shut_spans) >= MOST_SHUT_SPANS:
        return [NO_ROOM]
    return [ACCEPTED, house.shut(span).number]


def call_reopen(hotel, numbers):
    """The house opens rooms again that were shut."""
    house = hotel.house()
    entry = entry_with(house.shut_spans, numbers[0])
    if entry is None:
        return [NONE_SUCH]
    house.reopen(entry)
    return [ACCEPTED]


def call_sync(hotel, numbers):
    """A node writes; answers which bookings came to its disk and which went from it."""
    node = hotel.nodes[numbers[0]]
    before = node.disk.bookings
    node.write(hotel.under_way)
    after = node.disk.bookings
    return [ACCEPTED] + row_of_others(after, before) + row_of_others(before, after)


def row_of_others(entries, others):
    """How many of the entries aren't among the others, then their numbers."""
    numbers = [entry.number for entry in entries if entry_with(others, entry.number) is None]
    return [len(numbers)] + numbers


def call_cut(hotel, numbers):
    """A node's power is cut."""
    hotel.nodes[numbers[0]].cut_power()
    return [ACCEPTED]


def call_again(hotel, numbers):
    """A node sends again; answers how many more messages are under way."""
    before = hotel.under_way.amount()
    hotel.nodes[numbers[0]].send_again(hotel.under_way)
    return [ACCEPTED, hotel.under_way.amount() - before]


def call_deliver(hotel, numbers):
    """A message under way comes."""
    if numbers[0] > hotel.under_way.amount():
        return [NONE_SUCH]
    hotel.deliver(numbers[0])
    return [ACCEPTED]


def call_lose(hotel, numbers):
    """A message under way is lost."""
    if numbers[0] > hotel.under_way.amount():
        return [NONE_SUCH]
    hotel.under_way.take(numbers[0])
    return [ACCEPTED]


def call_double(hotel, numbers):
    """A message under way is put on the net once more."""
    if numbers[0] > hotel.under_way.amount():
        return [NONE_SUCH]
    if hotel.under_way.is_full():
        return [NO_ROOM]
    hotel.under_way.double(numbers[0])
    return [ACCEPTED]


def call_calm(hotel, numbers):
    """Rounds are made until it is quiet, at most so many; answers whether it is."""
    left = numbers[0]
    while left > 0 and not hotel.is_quiet():
        hotel.make_round()
        left -= 1
    return [ACCEPTED, 1 if hotel.is_quiet() else 0]


CALLS = {
    1: call_give,
    2: call_back,
    3: call_ask,
    4: call_unask,
    5: call_sell,
    6: call_cancel,
    7: call_change,
    8: call_shut,
    9: call_reopen,
    10: call_sync,
    11: call_cut,
    12: call_again,
    13: call_deliver,
    14: call_lose,
    15: call_double,
    16: call_calm,
}


def accepted_answer(hotel, place, numbers):
    """The answer of the call at that place, whose numbers are in their ranges."""
    call = CALLS[place]
    return call(hotel, numbers)
