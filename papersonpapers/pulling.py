"""The calls that tell what a revocation does: pulled, chain."""

from papersonpapers.calls import PULLED
from papersonpapers.known import find_revocation, known_at
from papersonpapers.limits import is_number
from papersonpapers.refusals import ACCEPTED, NONE_SUCH, OUT_OF_RANGE, refusal_of_asked
from papersonpapers.rows import flat
from papersonpapers.standing import papers_on
from papersonpapers.ways import pulled_down, way_down


# In both calls the revocation's number stands first, and K last.
def answer_pulling(house, call):
    numbers = call.numbers
    refusal = refusal_of_pulling(house, call)
    if refusal != ACCEPTED:
        return [refusal]
    known = known_at(house, numbers[-1])
    revocation = find_revocation(known, numbers[0])
    if revocation is None:
        return [NONE_SUCH]
    if call.number == PULLED:
        return [ACCEPTED] + pulled_papers(known, revocation, numbers[1])
    return [ACCEPTED] + chain(known, revocation, (numbers[1], numbers[2]))


def refusal_of_pulling(house, call):
    numbers = call.numbers
    if call.number == PULLED:
        return refusal_of_asked(house, numbers[0], numbers[1], numbers[2])
    if not is_number(numbers[0]):
        return OUT_OF_RANGE
    return refusal_of_asked(house, numbers[1], numbers[2], numbers[3])


def pulled_papers(known, revocation, day):
    pulled = pulled_down(known, revocation, papers_on(known, day))
    return [number for number in known.papers if (number, day) in pulled]


def chain(known, revocation, asked):
    pulled = pulled_down(known, revocation, [asked])
    if asked not in pulled:
        return [0]
    return [1] + flat(way_down(known, revocation, pulled, asked))
