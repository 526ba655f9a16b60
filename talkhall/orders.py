"""Letters of several halls, put in one order that fits.

A mark is a pair (hall, count), a letter a pair (mark, behind). What a letter is behind may be lacking.
"""


def followers_of(known):
    followers = dict([(mark, []) for mark in known])
    for mark in known:
        for other in known[mark]:
            if other in known:
                followers[other].append(mark)
    return followers


def heights_of(letters):
    # Height by height, since a chain of letters may be longer than a recursion can go.
    known = dict(letters)
    followers = followers_of(known)
    waits = dict([(mark, len([other for other in known[mark] if other in known])) for mark in known])
    heights = {}
    level = [mark for mark in known if waits[mark] == 0]
    height_now = 1
    while len(level) > 0:
        freed = []
        for mark in level:
            heights[mark] = height_now
            for follower in followers[mark]:
                waits[follower] -= 1
                if waits[follower] == 0:
                    freed.append(follower)
        level = freed
        height_now += 1
    return heights


def height(letters, mark):
    return heights_of(letters).get(mark)


def order(letters):
    heights = heights_of(letters)
    return tuple(sorted(heights, key=lambda mark: (heights[mark], mark)))


def lacking(letters):
    known = dict(letters)
    missing = {}
    for letter in letters:
        for mark in letter[1]:
            if mark not in known:
                missing[mark] = True
    return tuple(sorted(missing))


def ready(letters):
    # In this order all that a letter is behind, if it is there, was asked ahead of it.
    known = dict(letters)
    whole = {}
    for mark in order(letters):
        if all([other in whole for other in known[mark]]):
            whole[mark] = True
    return tuple(whole)


def together(one, other):
    letters = tuple(sorted(set(one + other)))
    known = dict(letters)
    return tuple([(mark, known[mark]) for mark in order(letters)])
