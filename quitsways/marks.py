"""Who hangs together with whom by pairs of people."""


def hanging_marks(owers, takers, pairs):
    """The list of a mark for each of so many owers, then for each taker: alike for those who hang together."""
    marks = list(range(owers + takers))
    for ower, taker in pairs:
        kept = marks[ower]
        gone = marks[owers + taker]
        if kept != gone:
            marks = [kept if mark == gone else mark for mark in marks]
    return marks
