"""What is seen of a room's rows: all here is told by the rows alone, in their order from number 1 on."""

from talkhall.words import called


def comes_in(row, who):
    return row[1] == who and row[2] in ("found", "enter")


def goes_out(row, who):
    if row[2] == "leave":
        return row[1] == who
    return row[2] in ("out", "bar") and row[3] == who


def sets_past(row):
    return row[2] == "set" and row[3] == "past"


def seen_by(rows, who):
    seen = []
    inside = False
    past = "shown"
    for row in rows:
        if comes_in(row, who):
            inside = True
            if past == "shown":
                seen = list(range(1, row[0]))
        if inside:
            seen.append(row[0])
        # Asked behind the row was taken, since the row by which one goes is seen too.
        if goes_out(row, who):
            inside = False
        if sets_past(row):
            past = row[4]
    return tuple(seen)


def latest_words(rows):
    # A mend or a gone may be seen without its say: what it leaves here is then asked by nobody.
    latest = {}
    for row in rows:
        if row[2] == "say":
            latest[row[0]] = row[3]
        if row[2] == "mend":
            latest[row[3]] = row[4]
        if row[2] == "gone":
            latest[row[3]] = None
    return latest


def view_of(rows, who):
    seen = [rows[number - 1] for number in seen_by(rows, who)]
    says = [row for row in seen if row[2] == "say"]
    latest = latest_words(seen)
    numbers = dict([(row[0], True) for row in says])
    return tuple([(row[0], row[1], latest[row[0]], row[4] if row[4] in numbers else None) for row in says])


def heard_from_others(rows, who):
    # What was taken back has no words any more, so it neither calls anybody nor waits to be read.
    return [said for said in view_of(rows, who) if said[1] != who and said[2] is not None]


def calls_of(rows, who):
    return tuple([said[0] for said in heard_from_others(rows, who) if who in called(said[2])])


def unread_of(rows, who, number):
    return len([said for said in heard_from_others(rows, who) if said[0] > number])
