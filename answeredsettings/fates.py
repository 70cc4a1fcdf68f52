"""What comes of a frame when its owner hears it."""


def fate_of(kind, number, judged):
    """The fate of a frame to a setting of this sort, judged by this value."""
    if kind == "size" and number > judged:
        return "refused"
    if kind == "table" and number != judged:
        return "garbled"
    if kind == "room" and number > judged:
        return "passed"
    return "kept"
