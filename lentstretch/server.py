"""The server as it is used: a list of calls in, a list of their answers out."""

from lentstretch.lending import lend
from lentstretch.reading import is_in_range, read_calls
from lentstretch.refusals import NOT_BEGUN, OUT_OF_RANGE
from lentstretch.setting import begin, set_up, tick
from lentstretch.state import Server


def answer_call(server, call):
    place = call.place
    numbers = call.numbers
    if place != 0 and not server.begun:
        return [NOT_BEGUN]
    if not is_in_range(call):
        return [OUT_OF_RANGE]
    if place == 0:
        return begin(server, numbers[0], numbers[1], numbers[2])
    if place == 1:
        return tick(server, numbers[0])
    if place < 10:
        return set_up(server, place, numbers, call.value)
    return lend(server, place, numbers)


def answers(calls):
    server = Server()
    given = []
    for call in read_calls(calls):
        answer = answer_call(server, call)
        given.append(len(answer))
        given.extend(answer)
    return given
