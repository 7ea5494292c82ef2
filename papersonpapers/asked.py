"""The calls that ask of a paper on a day, as known at a day: stands, why, proof, tree, shut."""

from papersonpapers.calls import PROOF, STANDS, TREE, WHY
from papersonpapers.known import known_at, revocation_of
from papersonpapers.proofs import closed_set, proof_steps, set_is_right, steps_are_right
from papersonpapers.refusals import ACCEPTED, WRONG_LIST, refusal_of_asked
from papersonpapers.rows import flat, is_made_of, parts
from papersonpapers.standing import is_standing, ranks_under

STANDING = 0
NOT_KNOWN = 1
TOO_EARLY = 2
TOO_LATE = 3
REVOKED = 4
NO_GROUND = 5


def answer_asked(house, call):
    numbers = call.numbers
    refusal = refusal_of_asked(house, numbers[0], numbers[1], numbers[2])
    if refusal != ACCEPTED:
        return [refusal]
    asked = (numbers[0], numbers[1])
    known = known_at(house, numbers[2])
    if call.number == STANDS:
        return [ACCEPTED, 1 if is_standing(known, asked) else 0]
    if call.number == WHY:
        return [ACCEPTED] + why(known, asked)
    if call.number == PROOF:
        return [ACCEPTED] + proof(known, asked)
    if call.number == TREE:
        return tree(known, asked, call.row)
    return shut(known, asked, call.row)


def why(known, asked):
    if is_standing(known, asked):
        return [STANDING]
    if asked[0] not in known.papers:
        return [NOT_KNOWN]
    paper = known.papers[asked[0]]
    if asked[1] < paper.first:
        return [TOO_EARLY]
    if asked[1] > paper.last:
        return [TOO_LATE]
    revocation = revocation_of(known, asked)
    if revocation is not None:
        return [REVOKED, revocation.number]
    return [NO_GROUND]


def proof(known, asked):
    ranks = ranks_under(known, [asked])
    if asked in ranks:
        return [1] + flat(proof_steps(known, asked, ranks))
    return [0] + flat(closed_set(known, asked, ranks))


def tree(known, asked, row):
    if not is_made_of(row, 3):
        return [WRONG_LIST]
    return [ACCEPTED, 1 if steps_are_right(known, asked, parts(row, 3)) else 0]


def shut(known, asked, row):
    if not is_made_of(row, 2):
        return [WRONG_LIST]
    return [ACCEPTED, 1 if set_is_right(known, asked, parts(row, 2)) else 0]
