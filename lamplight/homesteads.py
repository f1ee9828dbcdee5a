"""Homesteads: houses that live."""

from lamplight.errors import BadDeed, BadName, BadQuestion, InUse, NoCount, WouldChange
from lamplight.houses import House
from lamplight.kinds import PackageObject, is_name, is_number
from lamplight.ledgers import find_lit
from lamplight.onelaw import holds
from lamplight.questions import is_question_of
from lamplight.standings import Standing, behind_deed, changed_answers, is_deed, told_deed


class Homestead(PackageObject):
    """A house, its book, a lamp and watched questions.

    Standings and lists of them are never changed but replaced by others, so that homesteads can share them.
    """

    def __init__(self, name):
        if not is_name(name):
            raise BadName(name)
        self._now = Standing(House([name], []), {name: 0}, None, [])
        # Pairs (standing ahead, deed) of what was done.
        self._past = []
        # Pairs (deed, standing behind) of what was taken back, what was last at the end.
        self._undone = []

    def __eq__(self, other):
        return isinstance(other, Homestead) and self._now == other._now

    def now(self):
        return self._now.house

    def book(self):
        return dict(self._now.book)

    def lamp(self):
        return self._now.lamp

    def watched(self):
        return [(question, self._now.answer(question), held) for question, held in self._now.watched]

    def do(self, deed):
        behind = self._behind(deed)
        changed = changed_answers(self._now, behind)
        held = [question for question, is_held in self._now.watched if is_held]
        for question, _, _ in changed:
            if question in held:
                raise WouldChange(question)
        self._past = self._past + [(self._now, told_deed(deed))]
        self._undone = []
        self._now = behind
        return changed

    def would(self, deed):
        return changed_answers(self._now, self._behind(deed))

    def is_question(self, thing):
        return is_question_of(self._now.house, thing)

    def answer(self, question):
        if not is_question_of(self._now.house, question):
            raise BadQuestion(question)
        return self._now.answer(question)

    def mending_rooms(self):
        house = self._now.house
        book = self._now.book
        if find_lit(house, book) and holds(house, book):
            return []
        return [room for room in house.rooms() if holds(house, {**book, room: book[room] + 1})]

    def count(self):
        return len(self._past)

    def undo(self):
        if len(self._past) == 0:
            return None
        ahead, deed = self._past[-1]
        self._past = self._past[:-1]
        self._undone = self._undone + [(deed, self._now)]
        self._now = ahead
        return deed

    def again(self):
        if len(self._undone) == 0:
            return None
        deed, behind = self._undone[-1]
        self._undone = self._undone[:-1]
        self._past = self._past + [(self._now, deed)]
        self._now = behind
        return deed

    def deeds(self):
        return [deed for _, deed in self._past]

    def at(self, number):
        if not is_number(number) or number > len(self._past):
            raise NoCount(number)
        now = self._past[number][0] if number < len(self._past) else self._now
        return standing_so(now, self._past[:number], [])

    def copy(self):
        return standing_so(self._now, self._past, self._undone)

    def trial(self, work):
        now = self._now
        past = self._past
        undone = self._undone
        try:
            return work(self)
        finally:
            self._now = now
            self._past = past
            self._undone = undone

    def _behind(self, deed):
        """Tell the standing behind a deed; refuse it but where held answers alone are against it."""
        if not is_deed(deed):
            raise BadDeed(deed)
        behind = behind_deed(self._now, deed)
        for question, _ in self._now.watched:
            if not is_question_of(behind.house, question):
                raise InUse(question)
        return behind


def standing_of(homestead):
    return homestead._now


def standing_so(now, past, undone):
    """Tell a homestead of its own with a standing, what was done and what was taken back."""
    told = Homestead(now.house.rooms()[0])
    told._now = now
    told._past = past
    told._undone = undone
    return told
