"""A room told again by its rows alone: each row is done again, in a room that was just founded."""

from talkhall.errors import TalkError
from talkhall.rooms import Room
from talkhall.rows import ROLES, SETTINGS, is_setting


def do_bare(room, who, word):
    if word == "enter":
        room.enter(who)
    if word == "leave":
        room.leave(who)


def do_with_one(room, who, word, part):
    if word == "ask":
        room.ask(who, part)
    if word == "unbar":
        room.unbar(who, part)
    if word == "out":
        room.out(who, part)
    if word == "bar":
        room.bar(who, part)
    if word == "gone":
        room.take_back(who, part)


def do_with_two(room, who, word, first, second):
    if word == "set" and is_setting(first, second):
        room.arrange(who, first, second)
    if word == "role" and second in ROLES:
        room.role(who, first, second)
    if word == "say":
        room.say(who, first, second)
    if word == "mend":
        room.mend(who, first, second)


def do_again(room, row):
    # What fits no deed is not done: the room's rows then show that it is lacking.
    parts = row[3:]
    if len(parts) == 0:
        do_bare(room, row[1], row[2])
    if len(parts) == 1:
        do_with_one(room, row[1], row[2], parts[0])
    if len(parts) == 2:
        do_with_two(room, row[1], row[2], parts[0], parts[1])


def done_again(rows):
    room = Room(rows[0][1])
    for place, row in enumerate(rows):
        # The found, and a row that came of a deed by itself, stand there already.
        if place >= len(room.log):
            do_again(room, row)
    return room


def told_again(rows):
    room = done_again(rows)
    settings = tuple([room.setting(what) for what in SETTINGS])
    return (room.roles(), settings, room.barred(), room.asked())


def is_true(rows):
    if len(rows) == 0:
        return False
    try:
        room = done_again(rows)
    except TalkError:
        return False
    # Bounds of names and words are not asked: no hall refuses what lies beyond them.
    return room.rows() == rows
