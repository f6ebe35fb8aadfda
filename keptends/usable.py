"""The question that is put to arguments ahead of all else."""

from keptends.errors import NotUsable


def need(holds, word):
    """Raise NotUsable for the parameter with this name unless it holds."""
    if not holds:
        raise NotUsable(word, -1)
