"""The JUDGE of papers that show what is claimed of least diffs and merges."""

from alldiffs.answers import is_answer, is_word
from alldiffs.common import common_numbers, common_pick, numbers_of
from alldiffs.commonpapers import common_paper, is_common_paper
from alldiffs.cores import is_parted, parted_readings
from alldiffs.costs import Costs
from alldiffs.diffs import cost_of
from alldiffs.errors import InvalidClaim
from alldiffs.leastpapers import is_least_paper, is_statement, is_statement_paper, least_paper, statement_paper
from alldiffs.measures import greatest_value, is_extreme, least_value
from alldiffs.mergecores import Merge
from alldiffs.readings import Readings
from alldiffs.rows import is_row
from alldiffs.shapes import is_spot, is_tuple, is_whole, is_within
from alldiffs.tables import least_cost
from alldiffs.texts import is_text
from alldiffs.writtenpapers import is_written_paper, written_paper

KINDS = ("least", "sure", "matters", "greatest", "smallest", "row", "parts", "common")


def is_claim(value):
    """Whether any value is a CLAIM, true or not."""
    if not isinstance(value, tuple) or len(value) == 0 or not is_word(value[0], KINDS):
        return False
    if value[0] in ("least", "sure"):
        return len(value) == 5 and is_claim_of_texts(value)
    if value[0] in ("matters", "greatest", "smallest"):
        return len(value) == 4 and is_claim_of_readings(value)
    return len(value) == 3 and is_claim_of_merge(value)


def is_claim_of_texts(value):
    """Whether what stands behind the word makes a claim of two texts."""
    kind, old, new, costs, said = value
    if not is_text(old) or not is_text(new) or not isinstance(costs, Costs):
        return False
    return is_whole(said) if kind == "least" else is_statement(old, new, said)


def is_claim_of_readings(value):
    """Whether what stands behind the word makes a claim of an answer."""
    kind, readings, answer, said = value
    if not isinstance(readings, Readings) or not is_answer(readings, answer):
        return False
    if kind == "matters":
        return is_within(said, 0, len(readings.known) - 1)
    return answer[0] == "measure" and is_whole(said)


def is_claim_of_merge(value):
    """Whether what stands behind the word makes a claim of a merge."""
    kind, merge, said = value
    if not isinstance(merge, Merge):
        return False
    if kind == "row":
        return is_row(said)
    return merge.is_choice(said) if kind == "parts" else is_spot(said)


def check_claim(claim):
    """Raises InvalidClaim for what is no CLAIM."""
    if not is_claim(claim):
        raise InvalidClaim(claim)


def is_paper(claim, value):
    """Whether any value is a PAPER for a claim."""
    check_claim(claim)
    if claim[0] in ("least", "sure"):
        return is_paper_of_texts(claim, value)
    if claim[0] in ("matters", "greatest", "smallest"):
        return is_paper_of_readings(claim, value)
    return is_paper_of_merge(claim, value)


def is_paper_of_texts(claim, value):
    """Whether any value is a PAPER for a claim of two texts."""
    kind, old, new, costs, said = claim
    if kind == "sure":
        return is_statement_paper(old, new, costs, said, value)
    return is_least_paper(old, new, costs, value) and cost_of(old, new, value[0], costs) == said


def is_paper_of_readings(claim, value):
    """Whether any value is a PAPER for a claim of an answer."""
    kind, readings, answer, said = claim
    if kind == "matters":
        return is_parted(readings, answer, said, value)
    return is_extreme(readings, answer, said, value, least=kind == "smallest")


def is_paper_of_merge(claim, value):
    """Whether any value is a PAPER for a claim of a merge."""
    kind, merge, said = claim
    if kind == "row":
        return is_written_paper(merge, said, value)
    if kind == "parts":
        return merge.is_parted(said, value)
    if not is_tuple(value, 2) or not merge.is_pick(value[0]):
        return False
    return numbers_of(merge, value[0]) == said and is_common_paper(merge, said, value[1])


def paper_of(claim):
    """A PAPER for a claim, None if the claim is not true."""
    check_claim(claim)
    if claim[0] in ("least", "sure"):
        return paper_of_texts(claim)
    if claim[0] in ("matters", "greatest", "smallest"):
        return paper_of_readings(claim)
    return paper_of_merge(claim)


def paper_of_texts(claim):
    """A PAPER for a claim of two texts, None if it is not true."""
    kind, old, new, costs, said = claim
    if kind == "sure":
        return statement_paper(old, new, costs, said)
    return least_paper(old, new, costs) if least_cost(old, new, costs) == said else None


def paper_of_readings(claim):
    """A PAPER for a claim of an answer, None if it is not true."""
    kind, readings, answer, said = claim
    if kind == "matters":
        return parted_readings(readings, answer, said)
    value, paper = greatest_value(readings, answer) if kind == "greatest" else least_value(readings, answer)
    return paper if value == said else None


def paper_of_merge(claim):
    """A PAPER for a claim of a merge, None if it is not true."""
    kind, merge, said = claim
    if kind == "row":
        return written_paper(merge)[1] if merge.is_sure() and merge.row() == said else None
    if kind == "parts":
        return merge.parted(said)
    return (common_pick(merge), common_paper(merge)) if common_numbers(merge) == said else None
