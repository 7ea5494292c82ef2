"""The calls told_of and sizes: what was told, and how much."""

from papersonpapers.calls import TOLD_OF
from papersonpapers.limits import is_number
from papersonpapers.refusals import ACCEPTED, NONE_SUCH, OUT_OF_RANGE
from papersonpapers.rows import flat


def answer_fact(house, call):
    if call.number == TOLD_OF:
        return told_of(house, call.numbers[0])
    return [ACCEPTED, house.today, len(house.papers), len(house.revocations), len(house.decisions)]


def told_of(house, number):
    if not is_number(number):
        return [OUT_OF_RANGE]
    if number not in house.papers:
        return [NONE_SUCH]
    paper = house.papers[number]
    row = [ACCEPTED, paper.first, paper.last, paper.heard]
    for ground in paper.grounds:
        row.append(len(ground))
        row.extend(flat(ground))
    return row
