"""A hall: the people in it, their rooms, and the hands by which they read."""

from talkhall.errors import Known, NoHand, NoPerson, NoRoom
from talkhall.hands import Hand
from talkhall.rooms import Room
from talkhall.sights import calls_of, seen_by, unread_of, view_of


class Hall:
    def __init__(self):
        self.persons = {}
        self.places = {}
        self.hands = []

    def need_people(self, names):
        for name in names:
            if name not in self.persons:
                raise NoPerson(f"nobody is called {name}")

    def place(self, room):
        if room not in self.places:
            raise NoRoom(f"no room is called {room}")
        return self.places[room]

    def place_for(self, names, room):
        self.need_people(names)
        return self.place(room)

    def hand_of(self, hand):
        # Asked by bounds, since a number below 0 would count from the list's end.
        if hand < 0 or hand >= len(self.hands):
            raise NoHand(f"no hand has the number {hand}")
        return self.hands[hand]

    def come(self, who):
        if who in self.persons:
            raise Known(f"{who} is there")
        self.persons[who] = True

    def people(self):
        return tuple(sorted(self.persons))

    def rooms(self):
        return tuple(sorted(self.places))

    def found(self, who, room):
        self.need_people((who,))
        if room in self.places:
            raise Known(f"the room {room} is there")
        self.places[room] = Room(who)

    def enter(self, who, room):
        self.place_for((who,), room).enter(who)

    def leave(self, who, room):
        self.place_for((who,), room).leave(who)

    def arrange(self, who, room, what, value):
        self.place_for((who,), room).arrange(who, what, value)

    def ask(self, who, room, whom):
        self.place_for((who, whom), room).ask(who, whom)

    def role(self, who, room, whom, role):
        self.place_for((who, whom), room).role(who, whom, role)

    def out(self, who, room, whom):
        self.place_for((who, whom), room).out(who, whom)

    def bar(self, who, room, whom):
        self.place_for((who, whom), room).bar(who, whom)

    def unbar(self, who, room, whom):
        self.place_for((who, whom), room).unbar(who, whom)

    def say(self, who, room, words, answer):
        return self.place_for((who,), room).say(who, words, answer)

    def mend(self, who, room, number, words):
        self.place_for((who,), room).mend(who, number, words)

    def take_back(self, who, room, number):
        self.place_for((who,), room).take_back(who, number)

    def role_of(self, room, who):
        return self.place_for((who,), room).ranks.get(who)

    def roles(self, room):
        return self.place(room).roles()

    def setting(self, room, what):
        return self.place(room).setting(what)

    def barred(self, room):
        return self.place(room).barred()

    def asked(self, room):
        return self.place(room).asked()

    def rows(self, room):
        return self.place(room).rows()

    def sees(self, room, who):
        return seen_by(self.place_for((who,), room).log, who)

    def view(self, room, who):
        return view_of(self.place_for((who,), room).log, who)

    def calls(self, room, who):
        return calls_of(self.place_for((who,), room).log, who)

    def read_to(self, who, room, number):
        self.place_for((who,), room).read_to(who, number)

    def unread(self, who, room):
        place = self.place_for((who,), room)
        return unread_of(place.log, who, place.last_read(who))

    def hand(self, who):
        self.need_people((who,))
        self.hands.append(Hand(who))
        return len(self.hands) - 1

    def tell(self, hand, room, most):
        holder = self.hand_of(hand)
        log = self.place(room).log
        return tuple([log[number - 1] for number in holder.take(room, seen_by(log, holder.owner), most)])

    def lost(self, hand, room, number):
        holder = self.hand_of(hand)
        self.place(room)
        holder.lose(room, number)

    def say_once(self, hand, room, key, words):
        holder = self.hand_of(hand)
        return self.place(room).say_once(holder.owner, key, words)
