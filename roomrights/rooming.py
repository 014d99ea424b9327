"""The stays of a kind, and the room that each of them gets."""


class Stay:
    """A booking, or one room of a span of rooms shut; never altered once made."""

    def __init__(self, node, entry):
        self.node = node
        self.number = entry.number
        self.first = entry.span.first
        self.behind = entry.span.behind


def stay_order(stay):
    """By what stays are put in order."""
    return (stay.first, stay.node, stay.number)


def stays_of(hotel, kind):
    """All stays of the kind, in the order in which they get their rooms."""
    stays = []
    for node in hotel.nodes:
        stays.extend(stays_in(node.known.bookings, node.number, kind))
    stays.extend(stays_in(hotel.house().shut_spans, hotel.agents + 1, kind))
    return sorted(stays, key=stay_order)


def stays_in(entries, node, kind):
    """The stays of the kind in a node's entries, one for each room of an entry."""
    stays = []
    for entry in entries:
        if entry.span.kind == kind:
            stays.extend([Stay(node, entry)] * entry.span.rooms)
    return stays


def rooms_of(stays):
    """The room that each of the stays gets, one after another."""
    # First nights only grow, so of the stays in a room the last one alone says from when on it is free.
    free_from = []
    rooms = []
    for stay in stays:
        room = least_free_room(free_from, stay.first)
        if room > len(free_from):
            free_from.append(stay.behind)
        else:
            free_from[room - 1] = stay.behind
        rooms.append(room)
    return rooms


def least_free_room(free_from, night):
    """The least room, from 1 on, that is free on that night: one that had no stay yet, if all others are held."""
    for place, free in enumerate(free_from):
        if free <= night:
            return place + 1
    return len(free_from) + 1
