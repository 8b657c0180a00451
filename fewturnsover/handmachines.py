"""A hand's machines by its own values, made from and into those of its turn."""


def shortened(machine, common):
    """Tell a turn's machine with begins of this common state alone, its controls shortened by it."""
    many = len(common)
    begins = [(control[many:], state) for control, state in machine[0] if control[:many] == common]
    return tuple(begins), machine[1], machine[2]


def lengthened(machine, common):
    """Tell a machine with its controls lengthened ahead by a common state."""
    return tuple([(common + control, state) for control, state in machine[0]]), machine[1], machine[2]


def commons_of(controls, many):
    """Tell the common states that controls begin with, rising."""
    return sorted({control[:many] for control in controls})
