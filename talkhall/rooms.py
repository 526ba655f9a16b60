"""A room: who is in it with which role, its settings, and the rows of all that was done in it.

Whether people are there at all is the hall's to ask. Each deed asks for all its refusals, in the
order in which they are told, ahead of its first change: so what is refused changes nothing.
"""

from talkhall.errors import Barred, Known, NoRight, NoRow, NotAsked, NotIn
from talkhall.rows import ROLES, SETTINGS
from talkhall.sights import seen_by


def level(role):
    return ROLES.index(role)


class Room:
    def __init__(self, who):
        self.log = []
        self.ranks = {}
        self.entries = {}
        self.chosen = dict([(what, SETTINGS[what][0]) for what in SETTINGS])
        self.banned = {}
        self.invited = {}
        self.read_marks = {}
        self.said_by_key = {}
        self.let_in(who, "found", "owner")

    def write_row(self, who, word, parts):
        number = len(self.log) + 1
        self.log.append((number, who, word) + parts)
        return number

    def let_in(self, who, word, role):
        self.entries[who] = self.write_row(who, word, ())
        self.ranks[who] = role
        self.invited.pop(who, None)

    def give_role(self, who, whom, role):
        self.write_row(who, "role", (whom, role))
        self.ranks[whom] = role

    def claim(self, who):
        # The least claim comes first: the greatest role, then the earliest entry.
        return (-level(self.ranks[who]), self.entries[who])

    def see_to_owner(self):
        owners = [name for name in self.ranks if self.ranks[name] == "owner"]
        if len(self.ranks) > 0 and len(owners) == 0:
            heir = min(list(self.ranks), key=self.claim)
            self.give_role(heir, heir, "owner")

    def need_in(self, who):
        if who not in self.ranks:
            raise NotIn(f"{who} is not in the room")

    def need_keeper(self, who):
        if level(self.ranks[who]) < level("keeper"):
            raise NoRight(f"{who} is no keeper or owner")

    def need_above(self, who, whom):
        self.need_keeper(who)
        if whom in self.ranks and level(self.ranks[whom]) >= level(self.ranks[who]):
            raise NoRight(f"{whom} has no lesser role than {who}")

    def may_give(self, who, whom, role):
        if self.ranks[who] == "keeper":
            return max(level(self.ranks[whom]), level(role)) <= level("speaker")
        return self.ranks[who] == "owner"

    def sees_say(self, who, number):
        return number in seen_by(self.log, who) and self.log[number - 1][2] == "say"

    def was_taken_back(self, number):
        return any([row[2] == "gone" and row[3] == number for row in self.log])

    def need_say(self, who, number):
        if not self.sees_say(who, number) or self.was_taken_back(number):
            raise NoRow(f"{who} sees nothing said as {number} that stands")

    def has_said(self, who, number):
        return self.log[number - 1][1] == who

    def enter(self, who):
        if who in self.ranks:
            raise Known(f"{who} is in the room")
        if who in self.banned:
            raise Barred(f"{who} is barred")
        if self.chosen["door"] == "asked" and who not in self.invited:
            raise NotAsked(f"{who} is not asked")
        self.let_in(who, "enter", "guest")
        self.see_to_owner()

    def leave(self, who):
        self.need_in(who)
        self.write_row(who, "leave", ())
        self.ranks.pop(who)
        self.see_to_owner()

    def arrange(self, who, what, value):
        self.need_in(who)
        self.need_keeper(who)
        self.write_row(who, "set", (what, value))
        self.chosen[what] = value

    def ask(self, who, whom):
        self.need_in(who)
        self.need_keeper(who)
        if whom in self.ranks:
            raise Known(f"{whom} is in the room")
        self.write_row(who, "ask", (whom,))
        self.invited[whom] = True

    def role(self, who, whom, role):
        self.need_in(who)
        self.need_in(whom)
        if not self.may_give(who, whom, role):
            raise NoRight(f"{who} may not make {whom} a {role}")
        if self.ranks[whom] == role:
            raise Known(f"{whom} is a {role}")
        self.give_role(who, whom, role)
        self.see_to_owner()

    def out(self, who, whom):
        self.need_in(who)
        self.need_in(whom)
        self.need_above(who, whom)
        self.write_row(who, "out", (whom,))
        self.ranks.pop(whom)

    def bar(self, who, whom):
        self.need_in(who)
        self.need_above(who, whom)
        if whom in self.banned:
            raise Known(f"{whom} is barred")
        self.write_row(who, "bar", (whom,))
        self.banned[whom] = True
        self.ranks.pop(whom, None)

    def unbar(self, who, whom):
        self.need_in(who)
        self.need_keeper(who)
        if whom not in self.banned:
            raise Known(f"{whom} is not barred")
        self.write_row(who, "unbar", (whom,))
        self.banned.pop(whom)

    def say(self, who, words, answer):
        self.need_in(who)
        if self.chosen["voice"] == "some" and self.ranks[who] == "guest":
            raise NoRight(f"{who} is a guest, and the voice is some")
        if answer is not None and not self.sees_say(who, answer):
            raise NoRow(f"{who} sees nothing said as {answer}")
        return self.write_row(who, "say", (words, answer))

    def say_once(self, who, key, words):
        # A key that was used answers ahead of all refusals of say: nothing is done any more.
        if (who, key) not in self.said_by_key:
            self.said_by_key[(who, key)] = self.say(who, words, None)
        return self.said_by_key[(who, key)]

    def mend(self, who, number, words):
        self.need_in(who)
        self.need_say(who, number)
        if not self.has_said(who, number):
            raise NoRight(f"{who} did not say {number}")
        self.write_row(who, "mend", (number, words))

    def take_back(self, who, number):
        self.need_in(who)
        self.need_say(who, number)
        if not self.has_said(who, number):
            self.need_keeper(who)
        self.write_row(who, "gone", (number,))

    def roles(self):
        return tuple(sorted(self.ranks.items()))

    def setting(self, what):
        return self.chosen[what]

    def barred(self):
        return tuple(sorted(self.banned))

    def asked(self):
        return tuple(sorted(self.invited))

    def rows(self):
        return tuple(self.log)

    def last_read(self, who):
        return self.read_marks.get(who, 0)

    def read_to(self, who, number):
        if number < self.last_read(who) or number > len(self.log):
            raise NoRow(f"{who} can't have read to {number}")
        self.read_marks[who] = number
