"""Rules of loss: what counts of the losses so far, and whether one more line may be lost.

A rule is ("last", n): at most n neighbouring lines; ("all", n): at most n in all; ("window", w, n): at most
n of any w neighbouring ones; or ("kept", lines): any but these.
"""


def neighbouring(many):
    """The rule that lets so many neighbouring lines be lost."""
    return ("last", many)


def counted_first(rule):
    """What counts of the losses ahead of all lines."""
    return () if rule[0] == "window" else 0


def recent(numbers, number, width):
    """The numbers of those lines that are in some window of this width with the line behind this one."""
    return tuple([lost for lost in numbers if lost > number + 1 - width])


def counted_if_done(rule, counted, number):
    """What counts of the losses behind a line that happens."""
    if rule[0] == "last":
        return 0
    if rule[0] == "window":
        return recent(counted, number, rule[1])
    return counted


def counted_if_lost(rule, counted, number):
    """What counts of the losses behind a line that is lost, None if it can't be."""
    if rule[0] == "kept":
        return None if number in rule[1] else counted
    if rule[0] == "window":
        return None if len(counted) == rule[2] else recent(counted + (number,), number, rule[1])
    return None if counted == rule[1] else counted + 1


def lets(rule, lines, losses):
    """Whether a rule lets these of so many lines be lost."""
    counted = counted_first(rule)
    for number in range(lines):
        if number in losses:
            counted = counted_if_lost(rule, counted, number)
        else:
            counted = counted_if_done(rule, counted, number)
        if counted is None:
            return False
    return True
