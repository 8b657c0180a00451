"""The texts of a program made of one hand by which turns begin, end and are left, and faults are noted."""

from fewturnsover.plans import FALL, LEAD, LEAVE, SWITCH
from fewturnsover.scripts import Script


def put_call(plan, script, hand, part):
    """Put the call of a text in that is never left."""
    script.put_row(("call", plan.titles[(hand, part)]))
    script.put_rest()


def put_check(script, box, other, size):
    """Put rows in that are gone by only where both boxes have the same value."""
    labels = script.put_choice(box, list(range(size)))
    done = script.new_label()
    for value, label in enumerate(labels):
        script.place(label)
        script.put_row(("wait", other, value))
        if value < size - 1:
            script.put_row(("go", (done,)))
    script.place(done)


def put_begin(plan, script, at):
    """Put rows in by which a turn begins: what the common state is then is looked up, or guessed."""
    if at == 0:
        return
    for thing, box in plan.now.items():
        link = plan.links[(at, thing)]
        if not plan.is_kept(at):
            script.put_row(("set", link, ("any",)))
        script.put_row(("set", box, ("of", link)))
        if plan.is_kept(at):
            # What isn't needed any more is made the same, so that less is gone by.
            script.put_row(("set", link, ("to", 0)))


def put_end(plan, script, at):
    """Put rows in by which a turn ends: what the common state is then is kept, or checked."""
    if at + 1 == len(plan.order):
        return
    for thing, box in plan.now.items():
        link = plan.links[(at + 1, thing)]
        if plan.is_kept(at + 1):
            script.put_row(("set", link, ("of", box)))
        else:
            put_check(script, box, link, plan.shared[thing])
            script.put_row(("set", link, ("to", 0)))


def put_bounds(plan, script, first, behind, label):
    """Put rows in that go to a label where a fault was noted at one of these turns, the last one left out."""
    if plan.bound is not None:
        for at in range(first, behind):
            script.put_row(("if", plan.bound, at + 1, label))


def switch_text(plan, hand):
    """Tell the text by which a hand goes on to its next turns, if it does; behind its last one it is left."""
    script = Script()
    again, first, stay, leave = [script.new_label() for count in range(4)]
    script.place(again)
    script.put_row(("go", (first, stay)))
    script.place(first)
    places = plan.places[hand]
    labels = script.put_choice(plan.turn, list(range(len(places))))
    for number, label in enumerate(labels):
        script.place(label)
        put_end(plan, script, places[number])
        if number + 1 < len(places):
            put_bounds(plan, script, places[number], places[number + 1], leave)
            put_begin(plan, script, places[number + 1])
            script.put_row(("set", plan.turn, ("to", number + 1)))
            script.put_row(("go", (again,)))
    script.place(leave)
    put_call(plan, script, hand, LEAVE)
    script.place(stay)
    return script


def lead_text(plan, hand):
    """Tell the text with which a hand begins its turns."""
    script = Script()
    leave = script.new_label()
    first = plan.places[hand][0]
    if first > 0:
        put_bounds(plan, script, 0, first, leave)
    put_begin(plan, script, first)
    wait = script.new_label()
    script.place(wait)
    if plan.can_switch(hand):
        script.put_row(("call", plan.titles[(hand, SWITCH)]))
    if hand in plan.shared:
        # As long as it isn't begun it can but go on to its next turn.
        script.put_row(("if", plan.now[hand], 0, wait))
    script.put_row(("call", plan.titles[(hand, plan.whole[1][hand][2][0][0])]))
    script.put_rest()
    if plan.can_switch(hand):
        script.place(leave)
        put_call(plan, script, hand, LEAVE)
    return script


def leave_text(plan, hand):
    """Tell the text by which a hand's turns are left for those of the next one."""
    script = Script()
    rest = script.new_label()
    if not plan.faults_behind(hand):
        if plan.bound is None:
            script.put_rest()
            return script
        script.put_row(("if", plan.bound, 0, rest))
    if plan.is_last(hand):
        script.put_row(("fault",))
    else:
        used = [box for (owner, name), box in plan.own.items() if owner == hand]
        # The next hand has its own values in the same boxes, from 0 on; the shared ones it looks up or guesses.
        for box in list(plan.now.values()) + used:
            script.put_row(("set", box, ("to", 0)))
        if len(plan.places[hand]) > 1:
            script.put_row(("set", plan.turn, ("to", 0)))
        script.put_row(("call", plan.titles[(plan.line[plan.line.index(hand) + 1], LEAD)]))
    script.place(rest)
    script.put_rest()
    return script


def fall_text(plan, hand):
    """Tell the text by which a hand that isn't the last one notes a fault."""
    script = Script()
    places = plan.places[hand]
    labels = script.put_choice(plan.turn, list(range(len(places))))
    for number, label in enumerate(labels):
        script.place(label)
        script.put_row(("set", plan.bound, ("to", places[number] + 1)))
        put_call(plan, script, hand, LEAVE)
    return script


def put_fault(plan, script, hand):
    """Put in what a fault of a hand is."""
    if plan.is_last(hand):
        script.put_row(("fault",))
    else:
        put_call(plan, script, hand, FALL)


# By the numbers LEAD, SWITCH, LEAVE and FALL.
BESIDE = (lead_text, switch_text, leave_text, fall_text)
