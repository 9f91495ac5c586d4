"""The server as it is used: a list of calls in, a list of their answers out."""

from lentstretch.compacting import compact
from lentstretch.giving import give_back
from lentstretch.lending import lend
from lentstretch.reading import is_in_range, read_calls
from lentstretch.recovering import crash, load
from lentstretch.refusals import NOT_BEGUN, OUT_OF_RANGE
from lentstretch.setting import begin, set_up, tick
from lentstretch.state import Server
from lentstretch.telling import tell


def journal(server):
    return [len(server.journal)] + server.journal


# The calls at the places 20 to 23.
def keep_journal(server, place, numbers, stored):
    if place == 20:
        return journal(server)
    if place == 21:
        return load(server, stored)
    if place == 22:
        return crash(server, numbers[0])
    return compact(server)


def answer_in_range(server, place, numbers, listed):
    if place == 0:
        return begin(server, numbers[0], numbers[1], numbers[2])
    if place == 1:
        return tick(server, numbers[0])
    if place < 10:
        return set_up(server, place, numbers, listed)
    if place < 13:
        return lend(server, place, numbers)
    if place < 15:
        return give_back(server, place, numbers)
    if 20 <= place <= 23:
        return keep_journal(server, place, numbers, listed)
    return tell(server, place, numbers, listed)


def answer_call(server, call):
    if call.place != 0 and not server.begun:
        return [NOT_BEGUN]
    if not is_in_range(server, call):
        return [OUT_OF_RANGE]
    return answer_in_range(server, call.place, call.numbers, call.listed)


def answers(calls):
    server = Server()
    given = []
    for call in read_calls(calls):
        answer = answer_call(server, call)
        given.append(len(answer))
        given.extend(answer)
    return given
