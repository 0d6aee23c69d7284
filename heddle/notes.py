"""Drafts written as texts, and read from them."""

from heddle.drafts import Draft
from heddle.errors import NoDraft
from heddle.rows import shown, unfolded

BETWEEN_PARTS = " / "
BETWEEN_TIES = ", "


def written_draft(draft):
    """Write a draft as a text."""
    ties = BETWEEN_TIES.join([shown(tie) for tie in draft.ties])
    return BETWEEN_PARTS.join([shown(draft.threading), ties, shown(draft.treading)])


def read_draft(text):
    """Tell the draft that the text writes."""
    parts = text.split(BETWEEN_PARTS)
    if len(parts) != 3:
        raise NoDraft("a written draft has just three parts")
    threading = unfolded(parts[0])
    ties = [unfolded(tie) for tie in parts[1].split(BETWEEN_TIES)]
    return Draft(threading, ties, unfolded(parts[2]))
