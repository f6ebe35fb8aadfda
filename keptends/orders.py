"""Sets as the package returns them: ascending tuples without duplicates."""


def ascending(things):
    """Return the things as a set. They are of one kind: strings, numbers, or tuples alike."""
    # The language keeps sorted to plain numbers and strings where a class of
    # the package has an order, as Program has; pairs are to be sorted as well.
    groups = [[thing] for thing in things]
    while len(groups) > 1:
        groups = [_merged(groups[k:k + 2]) for k in range(0, len(groups), 2)]
    return tuple([thing for group in groups for thing in group])


def _merged(groups):
    if len(groups) == 1:
        return groups[0]
    left, right = groups
    merged = []
    i = 0
    j = 0
    while i < len(left) and j < len(right):
        if left[i] < right[j]:
            merged.append(left[i])
            i = i + 1
        else:
            # Of two equal ones only the right one goes on.
            if left[i] == right[j]:
                i = i + 1
            merged.append(right[j])
            j = j + 1
    return merged + left[i:] + right[j:]
