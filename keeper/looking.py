"""Looking at derivations: which rows don't follow."""

from keeper.errors import KeeperError
from keeper.normal import walked
from keeper.rules import LEADS, due_of
from keeper.things import KIND_WORDS, is_number


def are_ahead(ups, number):
    return isinstance(ups, tuple) and all([is_number(up) and 0 <= up < number for up in ups])


def is_log(log):
    if not isinstance(log, tuple):
        return False
    return all([isinstance(step, tuple) and len(step) == 2 and isinstance(step[0], tuple) for step in log])


def are_two_logs(logs):
    return isinstance(logs, tuple) and len(logs) == 2 and is_log(logs[0]) and is_log(logs[1])


# Here, and below, `ups` are the rows themselves; KeeperError is the caller's to take.
def turns(row, ups, book):
    context = row[1]
    term = row[2]
    kind = row[3]
    logs = row[5]
    if term[0] in KIND_WORDS or kind is None or kind[0] not in KIND_WORDS or not are_two_logs(logs):
        return False
    if len(ups) != 2 or ups[0][1:3] != (context, term) or ups[1][1:4] != (context, kind, None):
        return False
    own = ups[0][3]
    return own is not None and walked(own, logs[0], book) == walked(kind, logs[1], book)


def lead_among(thing, ups):
    if thing[0] not in LEADS:
        return None
    place = LEADS[thing[0]][0]
    return ups[place][3] if place < len(ups) else None


def goes_by_word(row, ups, book):
    thing = row[2]
    lead = lead_among(thing, ups)
    if row[0] != thing[0] or row[5] != () or (thing[0] in LEADS and lead is None):
        return False
    due = due_of(row[1], thing, lead, book)
    return row[3] == due[0] and [up[1:4] for up in ups] == due[1]


def follows(rows, number, book):
    row = rows[number]
    if not are_ahead(row[4], number):
        return False
    ups = [rows[up] for up in row[4]]
    try:
        return turns(row, ups, book) if row[0] == "turn" else goes_by_word(row, ups, book)
    except KeeperError:
        return False


def faults_of(rows, book):
    return [number for number in range(len(rows)) if not follows(rows, number, book)]
