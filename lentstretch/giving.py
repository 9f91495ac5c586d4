"""The calls that give a lease back or let its address rest: places 13 and 14."""

from lentstretch.keeping import subnet_around
from lentstretch.lending import is_live_lease
from lentstretch.refusals import NOT_THERE
from lentstretch.rows import RELEASE, REST
from lentstretch.state import time_from_now, write


def release(server, client, address, number):
    if not is_live_lease(server, client, address, number):
        return [NOT_THERE]
    return [write(server, RELEASE, [address, number], [])]


def decline(server, client, address, number):
    if not is_live_lease(server, client, address, number):
        return [NOT_THERE]
    end = time_from_now(server, subnet_around(server.kept, address).rest)
    refusal = write(server, REST, [address, number, end], [])
    if refusal != 0:
        return [refusal]
    return [end]


def give_back(server, place, numbers):
    if place == 13:
        return release(server, numbers[0], numbers[1], numbers[2])
    return decline(server, numbers[0], numbers[1], numbers[2])
