"""Answers a list of calls on one new house."""

from papersonpapers.asked import answer_asked
from papersonpapers.calls import ALL_THAT_STAND, BACK, CHAIN, DAY, DECIDE, MOVED, PAPER, PROOF, PULLED, read_call
from papersonpapers.calls import REVIEW, REVOKE, SHUT, SPANS, STANDS, TREE, WHY
from papersonpapers.decisions import answer_decision
from papersonpapers.facts import answer_fact
from papersonpapers.pulling import answer_pulling
from papersonpapers.records import House
from papersonpapers.surveys import answer_survey
from papersonpapers.told import answer_telling


def answers(calls):
    house = House()
    given = []
    place = 0
    while place < len(calls):
        call = read_call(calls, place)
        answer = answer_call(house, call)
        given.append(len(answer))
        given.extend(answer)
        place = call.end
    return given


def answer_call(house, call):
    if call.number in (DAY, PAPER, REVOKE, BACK):
        return answer_telling(house, call)
    if call.number in (STANDS, WHY, PROOF, TREE, SHUT):
        return answer_asked(house, call)
    if call.number in (ALL_THAT_STAND, SPANS, MOVED):
        return answer_survey(house, call)
    if call.number in (PULLED, CHAIN):
        return answer_pulling(house, call)
    if call.number in (DECIDE, REVIEW):
        return answer_decision(house, call)
    return answer_fact(house, call)
