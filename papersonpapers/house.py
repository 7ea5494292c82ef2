"""Answers a list of calls on one new house."""

from papersonpapers.asked import answer_asked
from papersonpapers.calls import BACK, DAY, PAPER, REVOKE, read_call
from papersonpapers.records import House
from papersonpapers.told import answer_telling


def answers(calls):
    house = House()
    given = []
    place = 0
    while place < len(calls):
        call = read_call(calls, place)
        answer = answer_call(house, call)
        given.append(len(answer))
        given.extend(answer)
        place = call.end
    return given


def answer_call(house, call):
    if call.number in (DAY, PAPER, REVOKE, BACK):
        return answer_telling(house, call)
    return answer_asked(house, call)
