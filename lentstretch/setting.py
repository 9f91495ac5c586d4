"""The calls that set the server up: places 0 to 9."""

from lentstretch.bounds import MOST_TIME
from lentstretch.judging import judge
from lentstretch.refusals import TOO_LATE
from lentstretch.state import write


def begin(server, room, most_records, hold):
    server.begin_anew(room, most_records, hold)
    return [0]


def tick(server, length):
    if server.now + length > MOST_TIME:
        return [TOO_LATE]
    server.now = server.now + length
    return [server.now]


# The calls at the places 2 to 9 write the rows of the kinds 1 to 8, in the same order and of the same numbers,
# and they are refused for just what keeps such a row from applying.
def set_up(server, place, numbers, value):
    kind = place - 1
    refusal = judge(server.kept, kind, numbers, value)
    if refusal != 0:
        return [refusal]
    return [write(server, kind, numbers, value)]
