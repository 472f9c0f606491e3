"""The texts by which a desk answers."""

from trussyard.figures import show_ratio

PARTS = {
    "rest": ("pulls", "pushes"),
    "moves": ("motion",),
    "bent": ("pulls", "pushes", "motion"),
    "most": ("number", "pulls", "pushes", "motion"),
    "endless": ("pushes",),
    "looser": ("motion",),
    "less": ("pulls", "pushes"),
}


def reply_of(told):
    """The text of a tuple that rest_of, bend_of, greatest_of or would_take tells."""
    parts = [told[0]]
    for kind, part in zip(PARTS[told[0]], told[1:]):
        parts.append(part_text(kind, part))
    return "; ".join(parts)


def part_text(kind, part):
    """The text of one part of this kind."""
    if kind == "pulls":
        return pulls_text(part)
    if kind == "pushes":
        return pushes_text(part)
    if kind == "motion":
        return motion_text(part)
    return show_ratio(part)


def pulls_text(pulls):
    """All bars with their pulls."""
    return " ".join([bar + "=" + show_ratio(pull) for bar, pull in pulls.items()])


def pushes_text(pushes):
    """All pins that have ways, with their pushes."""
    return " ".join([pin + ":" + numbers_text(some) for pin, some in pushes.items() if some != []])


def motion_text(motion):
    """All pins with their motions."""
    return " ".join([pin + "=" + numbers_text(two) for pin, two in motion.items()])


def numbers_text(numbers):
    """Numbers, parted by commas."""
    return ",".join([show_ratio(number) for number in numbers])


def counts_text(counts):
    """Whole numbers, parted by blanks."""
    return " ".join([str(count) for count in counts])
