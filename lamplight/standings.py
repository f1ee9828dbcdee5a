"""Standings of a homestead: how it is at a time; and what deeds make of them."""

from lamplight.errors import (BadQuestion, IsWatched, LampStands, NoDoor, NoLamp, NotDark, NotLeaf, NotWatched,
                              TakenRoom, TooMany)
from lamplight.houses import House, need_room
from lamplight.kinds import PackageObject, is_name, is_positive, is_row
from lamplight.questions import answer_of, is_question_of

# What deeds have behind their words: names, hours, any questions.
PARTS = {
    "build": ("name", "name"), "pull": ("name",), "enter": ("name", "hours"), "strike": ("name", "hours"),
    "set": ("name",), "wait": (), "go": ("name",), "end": (),
    "watch": ("question",), "hold": ("question",), "free": ("question",),
}


class Standing(PackageObject):
    """A house, its book, its lamp and what is watched, pairs (question, whether it is held): it never changes."""

    def __init__(self, house, book, lamp, watched):
        self.house = house
        self.book = {room: book[room] for room in house.rooms()}
        self.lamp = lamp
        self.watched = list(watched)

    def __eq__(self, other):
        return (isinstance(other, Standing) and self.house == other.house and self.book == other.book
                and self.lamp == other.lamp and self.watched == other.watched)

    def answer(self, question):
        return answer_of(self.house, self.book, question)

    def with_house(self, house, book):
        return Standing(house, book, self.lamp, self.watched)

    def with_hours(self, room, hours):
        return Standing(self.house, {**self.book, room: hours}, self.lamp, self.watched)

    def with_lamp(self, room):
        return Standing(self.house, self.book, room, self.watched)

    def with_watched(self, watched):
        return Standing(self.house, self.book, self.lamp, watched)


def is_deed(thing):
    """Tell of any object whether it is a deed."""
    if not is_row(thing) or len(thing) == 0 or not isinstance(thing[0], str) or thing[0] not in PARTS:
        return False
    kinds = PARTS[thing[0]]
    return len(thing) == len(kinds) + 1 and all([is_part(kind, part) for kind, part in zip(list(kinds), thing[1:])])


def is_part(kind, thing):
    if kind == "name":
        return is_name(thing)
    return is_positive(thing) if kind == "hours" else True


def told_deed(deed):
    """Tell a deed that can be done as a tuple, its question as one, too."""
    return tuple([tuple(part) if is_row(part) else part for part in deed])


def behind_deed(standing, deed):
    """Tell the standing behind a deed; refuse it where it cannot be done here."""
    word = deed[0]
    if word in ("build", "pull"):
        return behind_works(standing, deed)
    if word in ("enter", "strike"):
        return behind_hours(standing, deed)
    if word in ("watch", "hold", "free"):
        return behind_watching(standing, deed)
    return behind_lamp(standing, deed)


def behind_works(standing, deed):
    house = standing.house
    name = deed[1]
    if deed[0] == "build":
        if house.has(name):
            raise TakenRoom(name)
        need_room(house, deed[2])
        built = House(house.rooms() + [name], house.doors() + [(deed[2], name)])
        return standing.with_house(built, {**standing.book, name: 0})
    need_room(house, name)
    if len(house.near(name)) != 1:
        raise NotLeaf(name)
    if standing.book[name] > 0:
        raise NotDark(name)
    if standing.lamp == name:
        raise LampStands(name)
    rooms = [room for room in house.rooms() if room != name]
    return standing.with_house(House(rooms, [door for door in house.doors() if name not in door]), standing.book)


def behind_hours(standing, deed):
    word, name, hours = deed
    need_room(standing.house, name)
    there = standing.book[name]
    if word == "enter":
        return standing.with_hours(name, there + hours)
    if hours > there:
        raise TooMany(there)
    return standing.with_hours(name, there - hours)


def behind_lamp(standing, deed):
    word = deed[0]
    lamp = standing.lamp
    if word == "set":
        if lamp is not None:
            raise LampStands(lamp)
        need_room(standing.house, deed[1])
        return lit_hour(standing, deed[1])
    if lamp is None:
        raise NoLamp()
    if word == "go":
        need_room(standing.house, deed[1])
        if deed[1] not in standing.house.near(lamp):
            raise NoDoor(lamp, deed[1])
        return lit_hour(standing, deed[1])
    return lit_hour(standing, lamp) if word == "wait" else standing.with_lamp(None)


def lit_hour(standing, room):
    """Tell the standing behind an hour of the lamp in room."""
    return standing.with_hours(room, standing.book[room] + 1).with_lamp(room)


def behind_watching(standing, deed):
    word, thing = deed
    if not is_question_of(standing.house, thing):
        raise BadQuestion(thing)
    question = tuple(thing)
    held = {each: is_held for each, is_held in standing.watched}
    if word == "free":
        if question not in held:
            raise NotWatched(thing)
        return standing.with_watched([pair for pair in standing.watched if pair[0] != question])
    # A watched question can be held, but not be watched again.
    if question in held and (word == "watch" or held[question]):
        raise IsWatched(thing)
    held[question] = word == "hold"
    return standing.with_watched(list(held.items()))


def changed_answers(ahead, behind):
    """Tell the triples (question, ahead, behind) of the questions watched ahead that are answered otherwise behind."""
    if ahead.house == behind.house and ahead.book == behind.book:
        return []
    told = [(question, ahead.answer(question), behind.answer(question)) for question, _ in ahead.watched]
    return [triple for triple in told if triple[1] != triple[2]]
