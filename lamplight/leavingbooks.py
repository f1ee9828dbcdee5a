"""Books: to which rooms the lamp went from each room, in order."""

from lamplight.building import go_by
from lamplight.entrystamps import need_lighting
from lamplight.errors import BadBooks
from lamplight.houses import is_by_rooms, need_room
from lamplight.kinds import is_row
from lamplight.ledgers import hours_of


def books_of(house, carrying):
    need_lighting(house, carrying)
    told = {room: [] for room in house.rooms()}
    for ahead, room in zip(carrying, carrying[1:]):
        if ahead != room:
            told[ahead].append(room)
    return told


def read_from(house, books, first):
    need_books(house, books)
    need_room(house, first)
    rooms, left = find_read(house, books, first)
    return (rooms, {room: left[room] for room in left if left[room]})


def book_ends(house, books):
    need_books(house, books)
    told = []
    for first in house.rooms():
        rooms, left = find_read(house, books, first)
        if not any([left[room] for room in left]):
            told.append((first, rooms[-1]))
    return told


def is_books(house, thing):
    """Tell of any object whether it is a dict from just all rooms to lists of rooms beside them."""
    if not is_by_rooms(house, thing) or not all([is_row(thing[room]) for room in thing]):
        return False
    return all([other in house.near(room) for room in house.rooms() for other in thing[room]])


def need_books(house, books):
    if not is_books(house, books):
        raise BadBooks(books)


def find_read(house, books, first):
    """Tell the rooms from first on, each next one by the present room's book; and what is left of all books."""
    rooms = go_by(books, first)
    used = hours_of(house, rooms[:-1])
    return rooms, {room: list(books[room][used[room]:]) for room in used}
