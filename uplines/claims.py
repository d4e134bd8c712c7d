"""Claims about small sheets, and the papers that show that they are true."""

from uplines.basics import is_count, is_list
from uplines.checks import first_odd_line, is_new_line_of, is_pair_of, is_told_of
from uplines.errors import InvalidClaim, InvalidText, NotTrue
from uplines.papers import is_shown_by, shown_for
from uplines.struck import MOST_AGAINST, MOST_SEARCHED
from uplines.texts import read_sheet

KINDS = ("clean", "crossed", "may be", "never be", "kept", "never kept", "count", "struck", "helps", "refused")
# The key that the claims of a kind have beside "claim" and "sheet", if there is one.
THIRD_KEYS = {
    "may be": "orders", "never be": "orders", "kept": "pairs", "never kept": "pairs", "count": "number",
    "struck": "number", "helps": "lines", "refused": "line",
}


def is_claim(value):
    """Whether any value is a claim."""
    if not isinstance(value, dict) or "claim" not in value or "sheet" not in value:
        return False
    kind = value["claim"]
    sheet = small_sheet_of(value["sheet"])
    if kind not in KINDS or sheet is None:
        return False
    if kind not in THIRD_KEYS:
        return len(value) == 2
    key = THIRD_KEYS[kind]
    return len(value) == 3 and key in value and is_part(sheet, kind, value[key])


def is_true(claim):
    """Whether a claim is true."""
    check_claim(claim)
    return paper_or_none(claim) is not None


def paper_for(claim):
    """A paper that shows that a claim is true."""
    check_claim(claim)
    paper = paper_or_none(claim)
    if paper is None:
        raise NotTrue()
    return paper


def is_paper(claim, value):
    """Whether any value is a paper that shows that a claim is true."""
    check_claim(claim)
    return is_shown_by(read_sheet(claim["sheet"]), claim["claim"], part_of(claim), value)


def check_claim(claim):
    """Raise InvalidClaim unless this is a claim."""
    if not is_claim(claim):
        raise InvalidClaim(claim)


def small_sheet_of(value):
    """The small sheet of a text, None for any value that is no text of one."""
    try:
        sheet = read_sheet(value)
    except InvalidText:
        return None
    return sheet if sheet.is_small() else None


def is_part(sheet, kind, value):
    """Whether any value may stand beside the text of a sheet in a claim of a kind."""
    if kind == "may be" or kind == "never be":
        return is_told_of(sheet, value)
    if kind == "kept" or kind == "never kept":
        return is_list(value) and all([is_pair_of(sheet, pair) for pair in value])
    if kind == "count":
        return is_count(value)
    if kind == "struck":
        return is_count(value) and value <= MOST_AGAINST and len(sheet.lines()) <= MOST_SEARCHED
    if kind == "helps":
        return is_list(value) and first_odd_line(sheet, value) is None
    return is_new_line_of(sheet, value)


def part_of(claim):
    """What stands in a claim beside its word and its text, None if nothing does."""
    kind = claim["claim"]
    return claim[THIRD_KEYS[kind]] if kind in THIRD_KEYS else None


def paper_or_none(claim):
    """A paper that shows that a claim is true, None if it is not."""
    return shown_for(read_sheet(claim["sheet"]), claim["claim"], part_of(claim))
